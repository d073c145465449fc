import PyProof.Rows.All
import Wide.All
import OpenK.AllK
import Wide.FinOn
import PyProof.EqAt
import PyProof.EqKinds
import PyProof.TupleCall
import PyProof.StrBlockH
import PyProof.StrWalks
import PyProof.StrCalls
import PyProof.SetRoads
import PyProof.DictRoadsH
import Lean
import PySem.Challenge.RW_foreseehall_k45_whole_like_or_unlike
open List (mem_append_right getElem?_eq_getElem mem_append_left length_map getElem?_map append_assoc mem_cons_self mem_cons_of_mem mem_of_getElem? length_set map_cons getD_eq_getElem?_getD length_append getElem_mem map_map getElem?_set_ne getElem?_append_left nodup_nil map_append getElem?_append_right all_eq_true size_toArray getElem?_set_self length_cons set_set mem_cons lookup_cons not_mem_nil append_nil take_of_length_le flatten_cons any_eq_true take_succ nil_append getElem_of_mem mem_map getElem?_eq_none contains_iff_mem length_take length_singleton drop_eq_getElem_cons map_inj_right perm_append_comm ext_getElem? getElem?_replicate filter_cons pairwise_map take_append_drop getElem_map length_dropLast mem_range find?_cons length_filter_le mem_singleton mem_append take_length find?_append filterMap_cons getElem?_toArray nil_sublist drop_eq_nil_of_le all_map length_range cons_append map_congr_left mem_of_getLast? filter_append getElem?_dropLast)
set_option Elab.async false
set_option linter.all false
set_option maxRecDepth 100000
set_option maxHeartbeats 4000000
set_option maxRecDepth 10000
abbrev Fg:=PySem.W.Frag
abbrev rL (i:Nat):PySem.Stmt:=(PySem.Challenge.pw_foreseehall_k45_whole_like_or_unlike.main.body)[i]!
theorem Ko {α:Type _} {a:α} (s:List α) {t:List α} (h:a∈t):a∈s++t:=List.mem_append_right s h
theorem Kp {α:Type _} {a:α} {s:List α} (t:List α) (h:a∈s):a∈s++t:=List.mem_append_left t h
theorem Kq {α:Type _} {a:α} {s t:List α} (h:a∈s++t):a∈s\/a∈t:=List.mem_append.mp h
theorem Kr {α:Type _} {a b:α} {t:List α} (h:a∈b::t):a=b\/a∈t:=List.mem_cons.mp h
theorem Ks {α:Type _} {l:List α} {i:Nat} (h:i<l.length):l[i]?=some l[i]:=List.getElem?_eq_getElem h
theorem Kt {α:Type _} {l:List α} {i:Nat} {a:α}:l.getD i a=l[i]?.getD a:=List.getD_eq_getElem?_getD
theorem Ku {α:Type _} (y:α) {a:α} {l:List α} (h:a∈l):a∈y::l:=List.mem_cons_of_mem y h
abbrev Kv {α:Type _} {a b:List α}:=(List.nodup_append (l₁:=a) (l₂:=b)).mp
abbrev Kw {α:Type _} {a:α} {l:List α} {i:Nat}:=(List.getElem?_eq_some_iff (l:=l) (i:=i) (a:=a)).mp
abbrev Kx:=@PySem.wpAny_bind
abbrev Ky:=@PySem.wpAny_pure
abbrev Kz:=@PySem.Heap.get?_push_of_some
abbrev KA:=@Nat.le_refl
abbrev KB:=PySem.PyData
namespace L2
open PySem PySem.Spec PyProof.Rows
variable {us its:List Value} {a b it:Addr} {α:Type} {o:Obj} {g':Array GenState} {t' n:Nat} {d':Drawn} {ch fp:List Addr} {x qual:Str} {e c tg l:Expr} {N ps:List Str} {M:Model} {A:Around} {u:Value} {s':Shared} {pos:Pos} {pins:List (Addr×Obj)} {K:Fg} {es:List Expr} {lo:Int} {g:Int->Int->Int} {op':CmpOp} {mg:Str->Option Value} {base:Heap} {scope:Scope}
abbrev d8:=Sum Int Str
def iY:d8->Value->Bool
 | .inl k,v=>Value.isInt k v
 | .inr x,v=>Value.isStrOf x v
def AA (w:World):d8->Int
 | .inl k=>hashInt k
 | .inr x=>hashStr w x
theorem u7:∀{k:d8} {v:Value},iY k v=true->(∃i t,k=Sum.inl i/\v=Value.int i t)\/(∃x t,k=Sum.inr x/\v=Value.str x t)
 | .inl i,v,h=>by
  obtain ⟨t,e⟩:=Value.isInt_shape (k:=i) (v:=v) h
  exact .inl ⟨i,t,rfl,e⟩
 | .inr x,v,h=>by
  obtain ⟨t,e⟩:=Value.isStrOf_shape (x:=x) (v:=v) h
  exact .inr ⟨x,t,rfl,e⟩
theorem p9 (i:Int) (t:Tok):iY (.inl i) (.int i t)=true:=by simp [iY,Value.isInt]
theorem pZ (x:Str) (t:Tok):iY (.inr x) (.str x t)=true:=by simp [iY,Value.isStrOf]
theorem Az (a b:Int):decide ((Sum.inl a:d8)=Sum.inl b)=(a==b):=by
 by_cases e:a=b
 ·subst e;simp
 ·have h:¬(Sum.inl a:d8)=Sum.inl b:=fun q=>e (Sum.inl.inj q)
  rw [decide_eq_false h];exact (beq_eq_false_iff_ne.mpr e).symm
theorem Aw (a b:Str):decide ((Sum.inr a:d8)=Sum.inr b)=decide (a=b):=by
 by_cases e:a=b
 ·subst e;simp
 ·have h:¬(Sum.inr a:d8)=Sum.inr b:=fun q=>e (Sum.inr.inj q)
  rw [decide_eq_false h,decide_eq_false e]
theorem Ay (a:Int) (b:Str):decide ((Sum.inl a:d8)=Sum.inr b)=false:=decide_eq_false (fun q=>nomatch q)
theorem Ax (a:Str) (b:Int):decide ((Sum.inr a:d8)=Sum.inl b)=false:=decide_eq_false (fun q=>nomatch q)
def jU (prog:Program) (w:World):PySem.KeyKind prog w d8 where
 is:=iY
 hash:=AA w
 inj:=fun v a b ha hb=>by
  rcases u7 ha with ⟨i,t,rfl,rfl⟩ | ⟨x,t,rfl,rfl⟩
  ·rcases u7 hb with ⟨j,u,rfl,e⟩ | ⟨y,u,rfl,e⟩
   ·injection e with e1 _;rw [e1]
   ·exact nomatch e
  ·rcases u7 hb with ⟨j,u,rfl,e⟩ | ⟨y,u,rfl,e⟩
   ·exact nomatch e
   ·injection e with e1 _;rw [e1]
 byValue:=fun k v h=>by
  rcases u7 h with ⟨i,t,rfl,rfl⟩ | ⟨x,t,rfl,rfl⟩<;>rfl
 pyHash:=fun hv h=>by
  rcases u7 hv with ⟨i,t,rfl,rfl⟩ | ⟨x,t,rfl,rfl⟩
  ·exact wpAny_pyHash_int h
  ·exact wpAny_pyHash_str h
 eqBool:=fun hu hv h=>by
  rcases u7 hu with ⟨i,t,rfl,rfl⟩ | ⟨x,t,rfl,rfl⟩
  ·rcases u7 hv with ⟨j,u,rfl,rfl⟩ | ⟨y,u,rfl,rfl⟩
   ·rw [Az] at h;exact wpAny_eqBool_int h
   ·rw [Ay] at h;exact SeqAt.EqAt.int_str i t y u _ _ _ _ h
  ·rcases u7 hv with ⟨j,u,rfl,rfl⟩ | ⟨y,u,rfl,rfl⟩
   ·rw [Ax] at h;exact SeqAt.EqAt.str_int x t j u _ _ _ _ h
   ·rw [Aw] at h;exact wpAny_eqBool_str h
 «strs»:=fun k x t v h=>by
  rcases u7 h with ⟨i,u,rfl,e⟩ | ⟨y,u,rfl,e⟩
  ·exact nomatch e
  ·injection e with e1 _
   subst e1
   cases v<;>rfl
theorem kZ (prog:Program) (w:World) (i:Int) (t:Tok):(jU prog w).is (.inl i) (.int i t)=true:=p9 i t
theorem kY (prog:Program) (w:World) (x:Str) (t:Tok):(jU prog w).is (.inr x) (.str x t)=true:=pZ x t
inductive V where
 | non | bl (b:Bool) | int (i:Int) | str (x:Str) | byt (b:Array UInt8) | flt (b:UInt64) | ref (a:Addr) | ty (n:String)
 deriving DecidableEq
def RelV:V->Value->Prop
 | .non,u=>u=Value.none
 | .bl b,u=>u=Value.bool b
 | .int i,u=>∃t,u=Value.int i t
 | .str x,u=>∃t,u=Value.str x t
 | .byt b,u=>∃t,u=Value.bytes b t
 | .flt b,u=>∃t,u=Value.float b t
 | .ref a,u=>u=Value.ref a
 | .ty n,u=>u=Value.type n
abbrev Vals:List V->List Value->Prop:=Paired RelV
theorem Vals.length {xs:List V} (r:Vals xs us):xs.length=us.length:=Paired.length r
theorem Vals.get:∀{xs:List V} {us:List Value} {i:Nat} {x:V},Vals xs us->xs[i]?=some x->∃u,us[i]?=some u/\RelV x u
 | _,_,_,_,.nil,e=>by simp at e
 | _,_,0,_,.cons r _,e=>by simp at e;subst e;exact ⟨_,rfl,r⟩
 | _,_,i+1,x,.cons _ t,e=>by
  obtain ⟨u,h1,h2⟩:=Vals.get (i:=i) (x:=x) t (by simpa using e)
  exact ⟨u,by simpa using h1,h2⟩
theorem Vals.append:∀{xs ys:List V} {us ws:List Value},Vals xs us->Vals ys ws->Vals (xs++ys) (us++ws)
 | _,_,_,_,.nil,s=>s
 | _,_,_,_,.cons r t,s=>.cons r (Vals.append t s)
def RelO:Option V->Option Value->Prop
 | some v,some u=>RelV v u
 | none,none=>True
 | _,_=>False
def KV {κ:Type}:List (κ×V)->List (κ×Value)->Prop:=Paired fun (p:κ×V) (q:κ×Value)=>p.1=q.1/\RelV p.2 q.2
def kV:d8->V
 | .inl i=>.int i
 | .inr x=>.str x
inductive HO where
 | lst (xs:List V)
 | tup (xs:List V)
 | dK (kvs:List (d8×V)) | dT (kvs:List (List d8×V))
 | set (S:Int->Bool) (n:Nat)
 | ins (C dx:Addr) (fs:List (Str×V))
 | own (x:Addr)
 | xd (fs:List (Str×V))
 | met (f x:Addr)
 | rng (lo hi:Int)
 | frz (o:Obj) (u:HO)
 | tbl (ps:Array Value)
 | ext (φ:Heap->Prop)
abbrev Hp:=Addr->Option HO
def upd (H:Hp) (a:Addr) (o:HO):Hp:=fun b=>if b=a then some o else H b
theorem bL {H:Hp} {o:HO}:upd H a o a=some o:=by unfold upd;rw [if_pos rfl]
theorem bw {H:Hp} {o:HO} (h:b≠a):upd H a o b=H b:=by unfold upd;rw [if_neg h]
theorem u6 {H:Hp} {o:HO} (h:H a=some o) (h':H b=none):a≠b:=by
 intro e;subst e;rw [h] at h';cases h'
section
variable (P:Program) (w:World)
def ObjOk (H:Hp) (h:Heap) (a:Addr):HO->Prop
 | .lst xs=>xs.length<=sizeLine/\∃(its:List Value) (n:Nat),Vals xs its/\h.get? a=some { cls:=.type "list",data:=.seq its.toArray n }
 | .tup xs=>xs.length<=sizeLine/\∃its:List Value,Vals xs its/\IsTup h a its.toArray
 | .dK kvs=>kvs.length<=sizeLine/\(a==sysModules)=false/\∃vs,KV kvs vs/\h.DictOf (jU P w) a vs
 | .dT kvs=>kvs.length<=sizeLine/\(a==sysModules)=false/\∃xs:List (List d8×Addr×Value),
   Paired (fun (p:List d8×V) (q:List d8×Addr×Value)=>p.1=q.1/\H q.2.1=some (.tup (p.1.map kV))/\RelV p.2 q.2.2) kvs xs /\
   ∃o es ep,h.get? a=some o/\o.ExactDict/\o.data=.dict es ep/\es.toList=xs.map (entryOfKey (tupleKind (jU P w)))/\(xs.map (·.1)).Nodup
 | .set S n=>h.SetOf (intKind P w) a S n
 | .ins C dx fs=>H dx=some (.own a)/\fs.length<=1000/\dx≠a/\h.get? a=some (PySem.W.instObj C dx) /\
   ∃mA,h.Ns1 dx mA/\(∀f,RelO (fs.lookup f) (mA f))/\PySem.Within mA (fs.map (·.1))
 | .own _=>∃o,h.get? a=some o
 | .xd fs=>∃mA,h.Ns1 a mA/\∀f,RelO (fs.lookup f) (mA f)
 | .rng lo hi=>∃t u v,h.get? a=some { cls:=.type "range",data:=.fields #[.int lo t,.int hi u,.int 1 v] }
 | .frz o u=>h.get? a=some o/\ObjOk H h a u
 | .tbl ps=>h.get? a=some { cls:=.none,data:=.fields ps }
 | .met f x=>h.get? a=some (PySem.W.methodObj (.ref f) (.ref x))
 | .ext φ=>φ h/\(∃o,h.get? a=some o)/\∀h1 h2:Heap,φ h1->(∀o,h1.get? a=some o->h2.get? a=some o)->φ h2
def HOk (H:Hp) (h:Heap):Prop:=∀a o,H a=some o->ObjOk P w H h a o
end
section
variable {P:Program} {w:World} {H H':Hp} {h h':Heap} {a:Addr} {o:HO}
theorem ObjOk.lt (x:ObjOk P w H h a o):a<h.objs.size:=by
 cases o with
 | lst xs=>obtain ⟨_,_,_,_,e⟩:=x;exact Heap.lt_size e
 | tup xs=>obtain ⟨_,_,_,p⟩:=x;exact p.lt
 | dK kvs=>obtain ⟨_,_,_,_,o,_,_,e,_⟩:=x;exact Heap.lt_size e
 | dT kvs=>obtain ⟨_,_,_,_,o,_,_,e,_⟩:=x;exact Heap.lt_size e
 | set S n=>obtain ⟨o,_,_,_,e,_⟩:=x;exact Heap.lt_size e
 | ins C dx fs=>obtain ⟨_,_,_,e,_⟩:=x;exact Heap.lt_size e
 | own y=>obtain ⟨_,e⟩:=x;exact Heap.lt_size e
 | xd fs=>obtain ⟨_,⟨_,_,_,e,_⟩,_⟩:=x;exact Heap.lt_size e
 | rng lo hi=>obtain ⟨_,_,_,e⟩:=x;exact Heap.lt_size e
 | frz ob u=>obtain ⟨e,_⟩:=x;exact Heap.lt_size e
 | tbl ps=>exact Heap.lt_size (show h.get? a=some _ from x)
 | met f y=>exact Heap.lt_size (show h.get? a=some _ from x)
 | ext φ=>obtain ⟨_,⟨_,e⟩,_⟩:=x;exact Heap.lt_size e
theorem Paired.mapP {β:Type} {F G:α->β->Prop}:∀{l₁:List α} {l₂:List β},Paired F l₁ l₂->(∀a b,F a b->G a b)->Paired G l₁ l₂
 | _,_,.nil,_=>.nil
 | _,_,.cons r t,f=>.cons (f _ _ r) (Paired.mapP t f)
theorem ObjOk.stay (x:ObjOk P w H h a o) (k:∀b u,(b=a\/H b=some (.own a))->h.get? b=some u->h'.get? b=some u)
  (ho:∀b,H b=some (.own a)->H' b=some (.own a)) (ht:∀b xs,H b=some (.tup xs)->H' b=some (.tup xs)):ObjOk P w H' h' a o:=by
 induction o with
 | lst xs=>obtain ⟨z,its,n,r,e⟩:=x;exact ⟨z,its,n,r,k _ _ (.inl rfl) e⟩
 | tup xs=>obtain ⟨z,its,r,ob,e,c⟩:=x;exact ⟨z,its,r,ob,k _ _ (.inl rfl) e,c⟩
 | dK kvs=>obtain ⟨z,y,vs,r,ob,es,ep,e,c⟩:=x;exact ⟨z,y,vs,r,ob,es,ep,k _ _ (.inl rfl) e,c⟩
 | dT kvs=>
  obtain ⟨z,y,xs,r,ob,es,ep,e,c⟩:=x;exact ⟨z,y,xs,Paired.mapP r fun p q z=>⟨z.1,ht _ _ z.2.1,z.2.2⟩,ob,es,ep,k _ _ (.inl rfl) e,c⟩
 | set S n=>obtain ⟨ob,es,ep,t,e,c⟩:=x;exact ⟨ob,es,ep,t,k _ _ (.inl rfl) e,c⟩
 | ins C dx fs=>
  obtain ⟨d,z,ne,e,mA,⟨od,es,ep,e2,c⟩,r⟩:=x;exact ⟨ho _ d,z,ne,k _ _ (.inl rfl) e,mA,⟨od,es,ep,k _ _ (.inr d) e2,c⟩,r⟩
 | own y=>obtain ⟨ob,e⟩:=x;exact ⟨ob,k _ _ (.inl rfl) e⟩
 | xd fs=>obtain ⟨mA,⟨od,es,ep,e,c⟩,r⟩:=x;exact ⟨mA,⟨od,es,ep,k _ _ (.inl rfl) e,c⟩,r⟩
 | rng lo hi=>obtain ⟨t,u,v,e⟩:=x;exact ⟨t,u,v,k _ _ (.inl rfl) e⟩
 | frz ob u ih=>obtain ⟨e,q⟩:=x;exact ⟨k _ _ (.inl rfl) e,ih q⟩
 | tbl ps=>
  have e:h.get? a=some { cls:=.none,data:=.fields ps }:=x
  show h'.get? a=some { cls:=.none,data:=.fields ps }
  exact k a _ (.inl rfl) e
 | met f y=>
  have e:h.get? a=some (PySem.W.methodObj (.ref f) (.ref y)):=x
  show h'.get? a=some (PySem.W.methodObj (.ref f) (.ref y))
  exact k a _ (.inl rfl) e
 | ext φ=>obtain ⟨p,⟨o,e⟩,st⟩:=x;exact ⟨st _ _ p fun o q=>k _ _ (.inl rfl) q,⟨o,k _ _ (.inl rfl) e⟩,st⟩
theorem HOk.lt (x:HOk P w H h) (e:H a=some o):a<h.objs.size:=(x a o e).lt
theorem HOk.fresh (x:HOk P w H h) (e:h.objs.size<=a):H a=none:=by
 cases q:H a with
 | none=>rfl
 | some u=>exact absurd (Nat.lt_of_lt_of_le (x.lt q) e) (Nat.lt_irrefl _)
theorem HOk.kept (x:HOk P w H h) (k:∀b u,h.get? b=some u->h'.get? b=some u):HOk P w H h':=fun a o e=>
 (x a o e).stay (fun b u _ q=>k b u q) (fun _ q=>q) fun _ _ q=>q
theorem HOk.laid (x:HOk P w H h) (k:∀b u,h.get? b=some u->h'.get? b=some u) (hp:h.objs.size<=a) (new:ObjOk P w (upd H a o) h' a o):HOk P w (upd H a o) h':=fun b u e=>by
 have hn:=x.fresh hp
 by_cases hb:b=a
 ·subst hb;rw [bL] at e;cases e;exact new
 ·rw [bw hb] at e
  exact (x b u e).stay (fun c v _ q=>k c v q) (fun c q=>by rw [bw (u6 q hn)];exact q) fun c xs q=>by rw [bw (u6 q hn)];exact q
end
def Rd (H:Hp) (a:Addr) (u:HO):Prop:=H a=some u\/∃o,H a=some (.frz o u)
theorem Rd.of {H:Hp} {u:HO} (h:H a=some u):Rd H a u:=.inl h
theorem Rd.ok {P:Program} {w:World} {H:Hp} {h:Heap} {u:HO} (r:Rd H a u) (x:HOk P w H h):ObjOk P w H h a u:=by
 rcases r with r | ⟨o,r⟩
 ·exact x a u r
 ·obtain ⟨_,q⟩:=x a _ r
  exact q
def Es:Option HO->Prop
 | some (.lst _)=>True
 | some (.dK _)=>True
 | some (.dT _)=>True
 | some (.set _ _)=>True
 | some (.ins _ _ _)=>True
 | some (.ext _)=>True
 | _=>False
section
variable {P:Program} {w:World} {H:Hp} {h h':Heap} {x e:Addr} {o':HO}
theorem HOk.write (ok:HOk P w H h) (mu:Es (H x)) (he:e=x\/H e=some (.own x)) (k:∀b u,b≠e->h.get? b=some u->h'.get? b=some u) (heo:∃u,h'.get? e=some u)
  (new:ObjOk P w (upd H x o') h' x o'):HOk P w (upd H x o') h':=fun b u q=>by
 have nown:∀c y,H c=some (.own y)->c≠x:=fun c y r z=>by subst z;rw [r] at mu;exact mu
 have ntup:∀c xs,H c=some (.tup xs)->c≠x:=fun c xs r z=>by subst z;rw [r] at mu;exact mu
 by_cases hb:b=x
 ·subst hb;rw [bL] at q;cases q;exact new
 ·rw [bw hb] at q
  by_cases hbe:b=e
  ·have q':H b=some (.own x):=by
    rcases he with z | z
    ·exact absurd (hbe.trans z) hb
    ·rw [hbe];exact z
   rw [q] at q';cases q'
   obtain ⟨v,hv⟩:=heo;exact ⟨v,by rw [hbe];exact hv⟩
  ·refine (ok b u q).stay (fun c v hc r=>k c v ?_ r) (fun c r=>by rw [bw (nown c b r)];exact r) fun c xs r=>by rw [bw (ntup c xs r)];exact r
   rcases hc with rfl | hc
   ·exact hbe
   ·rintro rfl
    rcases he with z | z
    ·exact nown c b hc z
    ·rw [hc] at z;cases z;exact hb rfl
end
structure Un (fs ex:List Addr) (H H':Hp) (h h':Heap):Prop where
 keep:∀b o,h.get? b=some o->H b=none->b∉fs->b∉ex->h'.get? b=some o
 slot:∀b o,h.get? b=some o->H b=none->b∈fs->b∉ex->∃sl,h'.get? b=some { o with slots:=sl }
 free:∀b o,h.get? b=some o->H b=none->b∉ex->H' b=none
 there:∀b o,h.get? b=some o->b∉ex->∃o',h'.get? b=some o'
 tups:∀b xs,H b=some (.tup xs)->H' b=some (.tup xs)
 frzs:∀b o u,H b=some (.frz o u)->H' b=some (.frz o u)
 tbls:∀b ps,H b=some (.tbl ps)->∃more,H' b=some (.tbl (ps++more))
section
variable {fs fs' ex ex':List Addr} {H H1 H2:Hp} {h h1 h2 h':Heap} {a x e:Addr} {o:HO}
theorem Un.any (u:Un fs ex H H1 h h1) {ob:Obj} (q:h.get? b=some ob) (n:H b=none) (hx:b∉ex):∃sl,h1.get? b=some { ob with slots:=sl }:=by
 by_cases hb:b∈fs
 ·exact u.slot b ob q n hb hx
 ·exact ⟨ob.slots,u.keep b ob q n hb hx⟩
theorem Un.kept (k:∀b u,h.get? b=some u->h'.get? b=some u):Un fs ex H H h h':=
 ⟨fun b ob q _ _ _=>k b ob q,fun b ob q _ _ _=>⟨ob.slots,k b ob q⟩,fun _ _ _ n _=>n,fun b ob q _=>⟨ob,k b ob q⟩,fun _ _ q=>q,fun _ _ _ q=>q,fun _ ps q=>⟨#[],by rw [q];simp⟩⟩
theorem Un.refl:Un fs ex H H h h:=Un.kept fun _ _ q=>q
theorem Un.laid (k:∀b u,h.get? b=some u->h'.get? b=some u) (hp:h.objs.size<=a) (hn:H a=none):Un fs ex H (upd H a o) h h' where
 keep:=fun b u q _ _ _=>k b u q
 slot:=fun b u q _ _ _=>⟨u.slots,k b u q⟩
 free:=fun b u q n _=>by rw [bw (Nat.ne_of_lt (Nat.lt_of_lt_of_le (Heap.lt_size q) hp))];exact n
 there:=fun b u q _=>⟨u,k b u q⟩
 tups:=fun b xs q=>by rw [bw (u6 q hn)];exact q
 frzs:=fun b u xs q=>by rw [bw (u6 q hn)];exact q
 tbls:=fun b ps q=>⟨#[],by rw [bw (u6 q hn),q];simp⟩
theorem Un.write (mu:Es (H x)) (he:e=x\/H e=some (.own x)) (k:∀b u,b≠e->h.get? b=some u->h'.get? b=some u) (heo:∃u,h'.get? e=some u):Un fs ex H (upd H x o) h h':=by
 have hx:∀b,H b=none->b≠x:=fun b n z=>by subst z;rw [n] at mu;exact mu
 have hb:∀b,H b=none->b≠e:=fun b n z=>by
  subst z;rcases he with r | r
  ·exact hx b n r
  ·rw [n] at r;cases r
 have hm:∀b u,H b=some u->¬Es (some u)->b≠x:=fun b u q nm z=>by subst z;rw [q] at mu;exact nm mu
 refine ⟨fun b u q n _ _=>k b u (hb b n) q,fun b u q n _ _=>⟨u.slots,k b u (hb b n) q⟩,fun b u q n _=>by rw [bw (hx b n)];exact n,fun b u q _=>?_,
  fun b xs q=>by rw [bw (hm b _ q fun z=>z)];exact q,fun b u xs q=>by rw [bw (hm b _ q fun z=>z)];exact q,fun b ps q=>⟨#[],by rw [bw (hm b _ q fun z=>z),q];simp⟩⟩
 by_cases hbe:b=e
 ·subst hbe;exact heo
 ·exact ⟨u,k b u hbe q⟩
end
def FF (h:Heap) (H:Hp):List Addr:=(List.range h.objs.size).filter fun a=>(H a).isSome
def jD (h:Heap) (H:Hp):Heap:=PySem.W.hideAll h (FF h H)
theorem qe (h:Heap) (H:Hp):(jD h H).objs.size=h.objs.size:=PySem.W.hideAll_size _ _
theorem t5 {h:Heap} {H:Hp} (e:h.get? b=some o) (n:H b=none):(jD h H).get? b=some o:=
 PySem.W.hideAll_get _ e fun hm=>by
  have q:(H b).isSome=true:=(List.mem_filter.mp hm).2
  rw [n] at q;simp at q
theorem wx {h:Heap} {H:Hp} (e:(jD h H).get? b=some o):h.get? b=some o/\H b=none:=by
 have e':h.get? b=some o:=PySem.W.of_hideAll (FF h H) e
 refine ⟨e',?_⟩
 cases q:H b with
 | none=>rfl
 | some x=>
  have hm:b∈FF h H:=List.mem_filter.mpr ⟨List.mem_range.mpr (Heap.lt_size e'),by simp [q]⟩
  have z:(jD h H).get? b=none:=PySem.W.hideAll_none (FF h H) hm
  rw [z] at e;cases e
structure Mod (K:Fg) (mg:Str->Option Value) (base:Heap):Prop where
 kin:K.In base
 glob:base.Ns mainGlobals mg
 blt:∃mb,base.Ns builtinsNs mb/\∀x:Str,x ≠ "__name__"->mb x=bootBuiltins x
 nolimit:base.NoLimit
structure Cx where
 prog:Program
 w:World
 K:Fg
 mg:Str->Option Value
 base:Heap
 A:Around
 N:List Str
 s₀:Shared
 H₀:Hp
 env:Env
 outer:List Env
 stack:List Env
 ex:List Addr
 fn:Str->Bool
 calm:Bool
 pn:List (Addr×Obj)
 xe:Value->Shared->Prop
def uf (l:List Env):List Addr:=l.filterMap (·.frame)
abbrev Cx.fs (X:Cx):List Addr:=uf X.outer
def BP (sc:Scope) (x:Str):Prop:=sc.names.lookup x=some .local\/sc.names.lookup x=some .cell\/sc.names.lookup x=some .free
def Loc (sc:Scope) (x:Str):Prop:=sc.names.lookup x=some .local\/sc.names.lookup x=some .cell
def Look (env:Env) (h:Heap) (m:Str->Option Value) (x:Str) (u:Value):Prop:=
 (env.kindOf x=some .local/\m x=some u)\/((env.kindOf x=some .cell\/env.kindOf x=some .free)/\∃c,env.cells.lookup x=some c/\h.IsCell c (some u))
structure Cx.Ok (X:Cx):Prop where
 mod:Mod X.K X.mg X.base
 kind:X.env.scope.kind=.function
 glob:X.env.globals=mainGlobals
 blt:X.env.builtins=builtinsNs
 above:X.s₀.heap.objs.size<=X.env.locals
 inj:∀x y c,X.env.cells.lookup x=some c->X.env.cells.lookup y=some c->x=y
 has:∀x,(X.env.kindOf x=some .cell\/X.env.kindOf x=some .free)->∃c,X.env.cells.lookup x=some c
 cab:∀x c,X.fn x=true->X.env.cells.lookup x=some c->X.s₀.heap.objs.size<=c
 hd:X.calm=true->X.A.handled=none
 frames:X.A.frames=some X.stack
 stk:X.stack=X.outer\/(X.stack=X.env::X.outer/\X.env.frame=some X.env.locals)
 exf:∀b∈X.ex,b≠X.env.locals/\∀x c,X.env.cells.lookup x=some c->c≠b
 bs:∀b o,X.base.get? b=some o->X.s₀.heap.get? b=some o/\X.H₀ b=none
 bsz:X.base.objs.size<=X.s₀.heap.objs.size
 noex:∀b o,X.base.get? b=some o->b∉X.ex
 exfs:∀b∈X.ex,b∉X.fs
 funs:X.s₀.heap.FunFrames X.base X.outer
 frf:∀b∈X.fs,X.H₀ b=none
structure Inv (X:Cx) (pins:List (Addr×Obj)) (U:List (Option V)) (H:Hp) (s:Shared):Prop where
 ok:X.Ok
 os:s.os=X.s₀.os
 bare:AllBare s.gens
 base:Un X.fs X.ex X.H₀ H X.s₀.heap s.heap
 loc:∃m,s.heap.Ns X.env.locals m/\∀(i:Nat) (x:Str) (v:V),X.N[i]?=some x->U[i]?=some (some v)->BP X.env.scope x->∃u,RelV v u/\Look X.env s.heap m x u
 cell:∀x c,X.env.cells.lookup x=some c->∃v,s.heap.IsCell c v
 free:H X.env.locals=none
 freeC:∀x c,X.env.cells.lookup x=some c->H c=none
 pin:∀p∈X.pn++pins,s.heap.get? p.1=some p.2/\H p.1=none/\p.1≠X.env.locals/\p.1∉X.fs/\∀v,p.2.data≠.cell v
 hok:HOk X.prog X.w H s.heap
 len:U.length=X.N.length
section
variable {X:Cx} {pins:List (Addr×Obj)} {U:List (Option V)} {H H':Hp} {s:Shared} {h':Heap}
theorem Cx.Ok.nofr (ok:X.Ok) (e:X.base.get? b=some o):b∉X.fs:=fun hb=>by
 have:=(ok.funs.mem hb).1
 rw [e] at this;cases this
theorem Inv.bs (I:Inv X pins U H s):∀b o,X.base.get? b=some o->s.heap.get? b=some o/\H b=none:=fun b o e=>
 ⟨I.base.keep b o (I.ok.bs b o e).1 (I.ok.bs b o e).2 (I.ok.nofr e) (I.ok.noex b o e),I.base.free b o (I.ok.bs b o e).1 (I.ok.bs b o e).2 (I.ok.noex b o e)⟩
theorem Inv.bk (I:Inv X pins U H s):∀b o,X.base.get? b=some o->s.heap.get? b=some o:=fun b o e=>(I.bs b o e).1
theorem Inv.mod (I:Inv X pins U H s):Mod X.K X.mg X.base:=I.ok.mod
theorem Inv.kIn (I:Inv X pins U H s):X.K.In s.heap:=I.ok.mod.kin.keeps I.bk
theorem Inv.lt (I:Inv X pins U H s):X.env.locals<s.heap.objs.size:=let ⟨_,hn,_⟩:=I.loc;hn.lt
theorem Inv.sz (I:Inv X pins U H s):X.s₀.heap.objs.size<=s.heap.objs.size:=Nat.le_trans I.ok.above (Nat.le_of_lt I.lt)
theorem Inv.nofs (I:Inv X pins U H s) (h:s.heap.objs.size<=a):a∉X.fs:=fun hb=>by
 obtain ⟨_,o,ho,_⟩:=I.ok.funs.mem hb;exact absurd (Nat.lt_of_lt_of_le (Heap.lt_size ho) (Nat.le_trans I.sz h)) (Nat.lt_irrefl _)
theorem Inv.cne (I:Inv X pins U H s):∀x c,X.env.cells.lookup x=some c->c≠X.env.locals:=fun x c e z=>by
 obtain ⟨v,o,ho,hd⟩:=I.cell x c e;obtain ⟨m,⟨o',es,ep,ho',hd',_⟩,_⟩:=I.loc;rw [z,ho'] at ho;cases ho;rw [hd'] at hd;cases hd
theorem Inv.funs (I:Inv X pins U H s):s.heap.FunFrames X.base X.outer:=by
 have all:∀(l:List Env),(∀b∈uf l,b∈X.fs)->X.s₀.heap.FunFrames X.base l->s.heap.FunFrames X.base l:=by
  intro l;induction l with
  | nil=>intro _ _;trivial
  | cons env r ih=>
   intro hs hl;obtain ⟨hk,⟨L,o,hf,hn,ho,hd⟩,hr⟩:=hl;have hL:L∈X.fs:=hs L (by unfold uf;rw [filterMap_cons,hf];exact mem_cons_self)
   obtain ⟨sl,e⟩:=I.base.slot L o ho (I.ok.frf L hL) hL fun z=>I.ok.exfs L z hL
   exact ⟨hk,⟨L,_,hf,hn,e,hd⟩,ih (fun b hb=>hs b (by unfold uf;rw [filterMap_cons,hf];exact Ku _ hb)) hr⟩
 exact all X.outer (fun _ hb=>hb) I.ok.funs
theorem Inv.stack (I:Inv X pins U H s):s.heap.FunFrames X.base X.stack:=by
 rcases I.ok.stk with e | ⟨e,hf⟩
 ·rw [e];exact I.funs
 ·rw [e]
  obtain ⟨m,hn,_⟩:=I.loc;refine .cons (by rw [I.ok.kind];decide) hf hn ?_ I.funs
  exact Heap.get?_none_of_le (Nat.le_trans I.ok.bsz I.ok.above)
theorem Inv.stkSub (I:Inv X pins U H s):∀b∈uf X.stack,b∈X.env.locals::X.fs:=fun b hb=>by
 rcases I.ok.stk with e | ⟨e,hf⟩
 ·rw [e] at hb;exact Ku _ hb
 ·rw [e] at hb
  unfold uf at hb;rw [filterMap_cons,hf] at hb;exact hb
theorem Inv.stkFree (I:Inv X pins U H s):∀b∈uf X.stack,H b=none:=fun b hb=>by
 rcases Kr (I.stkSub b hb) with e | hb
 ·rw [e];exact I.free
 ·obtain ⟨_,o,ho,_⟩:=I.ok.funs.mem hb
  exact I.base.free b o ho (I.ok.frf b hb) fun z=>I.ok.exfs b z hb
theorem Inv.step (I:Inv X pins U H s)
  (hch:∀b∈ch,(b∈X.ex\/X.s₀.heap.objs.size<=b)/\b≠X.env.locals/\(∀x c,X.env.cells.lookup x=some c->c≠b)/\∀p∈X.pn++pins,p.1≠b)
  (keep:∀b o,b≠X.env.locals->b∉X.fs->b∉ch->s.heap.get? b=some o->H b=none->h'.get? b=some o)
  (slot:∀b o,b≠X.env.locals->b∈X.fs->b∉ch->s.heap.get? b=some o->H b=none->∃sl,h'.get? b=some { o with slots:=sl }) (free:∀b o,b∉ch->s.heap.get? b=some o->H b=none->H' b=none)
  (there:∀b o,b∉ch->s.heap.get? b=some o->∃o',h'.get? b=some o')
  (tups:∀b xs,H b=some (.tup xs)->H' b=some (.tup xs)) (frzs:∀b o u,H b=some (.frz o u)->H' b=some (.frz o u)) (tbls:∀b ps,H b=some (.tbl ps)->∃more,H' b=some (.tbl (ps++more)))
  (ns:∀m,s.heap.Ns X.env.locals m->h'.Ns X.env.locals m) (hok:HOk X.prog X.w H' h') (hg:AllBare g') :
  Inv X pins U H' { s with heap:=h',gens:=g',drawn:=d',toks:=t' }:=by
 have neL:∀b o,X.s₀.heap.get? b=some o->b≠X.env.locals:=fun b o e=>Nat.ne_of_lt (Nat.lt_of_lt_of_le (Heap.lt_size e) I.ok.above)
 have neC:∀b o,X.s₀.heap.get? b=some o->b∉X.ex->b∉ch:=fun b o e hx hb=>by
  rcases (hch b hb).1 with z | z
  ·exact hx z
  ·exact absurd (Nat.lt_of_lt_of_le (Heap.lt_size e) z) (Nat.lt_irrefl _)
 have cellK:∀x c,X.env.cells.lookup x=some c->∀v,s.heap.IsCell c v->h'.IsCell c v:=fun x c e v ⟨o,ho,hd⟩=>by
  have nch:c∉ch:=fun z=>(hch c z).2.2.1 x c e rfl
  by_cases hc:c∈X.fs
  ·obtain ⟨sl,q⟩:=slot c o (I.cne x c e) hc nch ho (I.freeC x c e)
   exact ⟨_,q,hd⟩
  ·exact ⟨o,keep c o (I.cne x c e) hc nch ho (I.freeC x c e),hd⟩
 refine ⟨I.ok,I.os,hg,⟨fun b o e n hb hx=>?_,fun b o e n hb hx=>?_,fun b o e n hx=>?_,fun b o e hx=>?_,fun b xs e=>tups b xs (I.base.tups b xs e),fun b o xs e=>frzs b o xs (I.base.frzs b o xs e),fun b ps e=>?_⟩,?_,fun x c e=>?_,?_,fun x c e=>?_,fun p hp=>?_,hok,I.len⟩
 ·exact keep b o (neL b o e) hb (neC b o e hx) (I.base.keep b o e n hb hx) (I.base.free b o e n hx)
 ·obtain ⟨sl,e1⟩:=I.base.slot b o e n hb hx
  obtain ⟨sl',e2⟩:=slot b _ (neL b o e) hb (neC b o e hx) e1 (I.base.free b o e n hx);exact ⟨sl',e2⟩
 ·obtain ⟨o',e1⟩:=I.base.there b o e hx
  exact free b o' (neC b o e hx) e1 (I.base.free b o e n hx)
 ·obtain ⟨o',e1⟩:=I.base.there b o e hx
  exact there b o' (neC b o e hx) e1
 ·obtain ⟨m1,e1⟩:=I.base.tbls b ps e
  obtain ⟨m2,e2⟩:=tbls b _ e1;exact ⟨m1++m2,by rw [e2,Array.append_assoc]⟩
 ·obtain ⟨m,hn,hl⟩:=I.loc
  refine ⟨m,ns m hn,fun i x v e1 e2 e3=>?_⟩
  obtain ⟨u,r,l⟩:=hl i x v e1 e2 e3;refine ⟨u,r,?_⟩
  rcases l with l | ⟨k,c,e,z⟩
  ·exact .inl l
  ·exact .inr ⟨k,c,e,cellK x c e _ z⟩
 ·obtain ⟨v,z⟩:=I.cell x c e
  exact ⟨v,cellK x c e v z⟩
 ·obtain ⟨m,⟨o,_,_,ho,_⟩,_⟩:=I.loc
  exact free _ o (fun z=>(hch _ z).2.1 rfl) ho I.free
 ·obtain ⟨v,o,ho,hd⟩:=I.cell x c e
  exact free c o (fun z=>(hch c z).2.2.1 x c e rfl) ho (I.freeC x c e)
 ·obtain ⟨e,n,ne,nf,d⟩:=I.pin p hp
  have nch:p.1∉ch:=fun z=>(hch p.1 z).2.2.2 p hp rfl
  exact ⟨keep p.1 p.2 ne nf nch e n,free p.1 p.2 nch e n,ne,nf,d⟩
theorem Inv.un (I:Inv X pins U H s) (u:Un X.fs [] H H' s.heap h') (hok:HOk X.prog X.w H' h'):Inv X pins U H' { s with heap:=h',toks:=t' }:=by
 obtain ⟨m,⟨o,es,ep,ho,r⟩,_⟩:=id I.loc;obtain ⟨sl,hL⟩:=u.any ho I.free (by simp)
 exact I.step (g':=s.gens) (d':=s.drawn) (ch:=[]) (fun _ z=>nomatch z) (fun b o _ hb _ e n=>u.keep b o e n hb (by simp)) (fun b o _ hb _ e n=>u.slot b o e n hb (by simp)) (fun b o _ e n=>u.free b o e n (by simp)) (fun b o _ e=>u.there b o e (by simp)) u.tups u.frzs u.tbls (fun m' hm=>by
  obtain ⟨o',es',ep',ho',r'⟩:=hm;rw [ho] at ho';cases ho'
  exact ⟨_,es',ep',hL,r'⟩) hok I.bare
theorem Inv.call (I:Inv X pins U H s) (u:Un (uf X.stack) ch H H' s.heap h') (hok:HOk X.prog X.w H' h') (hg:AllBare g')
  (hch:∀b∈ch,(b∈X.ex\/X.s₀.heap.objs.size<=b)/\b≠X.env.locals/\(∀x c,X.env.cells.lookup x=some c->c≠b)/\∀p∈X.pn++pins,p.1≠b) :
  Inv X pins U H' { s with heap:=h',gens:=g',drawn:=d',toks:=t' }:=by
 obtain ⟨m,⟨o,es,ep,ho,r⟩,_⟩:=id I.loc;obtain ⟨sl,hL⟩:=u.any ho I.free fun z=>(hch _ z).2.1 rfl
 exact I.step (ch:=ch) hch (fun b o hL hb hc e n=>u.keep b o e n (fun z=>(Kr (I.stkSub b z)).elim hL hb) hc) (fun b o _ _ hc e n=>u.any e n hc) (fun b o hc e n=>u.free b o e n hc) (fun b o hc e=>u.there b o e hc) u.tups u.frzs u.tbls (fun m' hm=>by
  obtain ⟨o',es',ep',ho',r'⟩:=hm;rw [ho] at ho';cases ho'
  exact ⟨_,es',ep',hL,r'⟩) hok hg
theorem Inv.turned (I:Inv X pins U H s) (k:∀b o,b≠it->s.heap.get? b=some o->h'.get? b=some o) (hn:H it=none) (hL:it≠X.env.locals)
  (h1:it∈X.ex\/X.s₀.heap.objs.size<=it) (h2:∀x c,X.env.cells.lookup x=some c->c≠it) (h3:∀p∈X.pn++pins,p.1≠it):Inv X pins U H { s with heap:=h',toks:=t' }:=by
 have nit:∀b u,H b=some u->b≠it:=fun b u e z=>by rw [z,hn] at e;cases e
 refine I.step (g':=s.gens) (d':=s.drawn) (ch:=[it]) (fun b hb=>?_) (fun b o _ _ hc e _=>k b o (fun z=>hc (by simp [z])) e) (fun b o _ _ hc e _=>⟨o.slots,k b o (fun z=>hc (by simp [z])) e⟩) (fun _ _ _ _ n=>n)
  (fun b o hc e=>⟨o,k b o (fun z=>hc (by simp [z])) e⟩) (fun _ _ e=>e) (fun _ _ _ e=>e) (fun b ps e=>⟨#[],by rw [e];simp⟩) (fun m hm=>?_) (fun b u e=>?_) I.bare
 ·have e:b=it:=by simpa using hb
  subst e;exact ⟨h1,hL,h2,h3⟩
 ·obtain ⟨o,es,ep,ho,r⟩:=hm
  exact ⟨o,es,ep,k _ o (Ne.symm hL) ho,r⟩
 ·refine (I.hok b u e).stay (fun c v hc q=>k c v ?_ q) (fun _ q=>q) fun _ _ q=>q
  rcases hc with z | z
  ·rw [z];exact nit b u e
  ·exact nit c _ z
theorem Inv.tok (I:Inv X pins U H s) (t:Nat):Inv X pins U H { s with toks:=t }:=I.un (h':=s.heap) (t':=t) Un.refl I.hok
theorem Inv.kept (I:Inv X pins U H s) (k:∀b u,s.heap.get? b=some u->h'.get? b=some u):Inv X pins U H { s with heap:=h',toks:=t' }:=I.un (Un.kept k) (I.hok.kept k)
theorem Inv.laid {o:HO} (I:Inv X pins U H s) (k:∀b u,s.heap.get? b=some u->h'.get? b=some u) (hp:s.heap.objs.size<=a) (new:ObjOk X.prog X.w (upd H a o) h' a o) :
  Inv X pins U (upd H a o) { s with heap:=h',toks:=t' }:=I.un (Un.laid k hp (I.hok.fresh hp)) (I.hok.laid k hp new)
theorem Inv.write {x e:Addr} {o:HO} (I:Inv X pins U H s) (mu:Es (H x)) (he:e=x\/H e=some (.own x)) (k:∀b u,b≠e->s.heap.get? b=some u->h'.get? b=some u) (heo:∃u,h'.get? e=some u)
  (new:ObjOk X.prog X.w (upd H x o) h' x o):Inv X pins U (upd H x o) { s with heap:=h',toks:=t' }:=I.un (Un.write mu he k heo) (I.hok.write mu he k heo new)
theorem Inv.weak {U':List (Option V)} (I:Inv X pins U H s) (hl:U'.length=U.length) (w:∀(i:Nat) v,U'[i]?=some (some v)->U[i]?=some (some v)):Inv X pins U' H s:=
 ⟨I.ok,I.os,I.bare,I.base,let ⟨m,hn,hl'⟩:=I.loc;⟨m,hn,fun i x v e1 e2 e3=>hl' i x v e1 (w i v e2) e3⟩,I.cell,I.free,I.freeC,I.pin,I.hok,hl.trans I.len⟩
theorem Inv.pins_of {pins':List (Addr×Obj)} (I:Inv X pins U H s) (h:∀p∈pins',s.heap.get? p.1=some p.2/\H p.1=none/\p.1≠X.env.locals/\p.1∉X.fs/\∀v,p.2.data≠.cell v):Inv X pins' U H s:=
 ⟨I.ok,I.os,I.bare,I.base,I.loc,I.cell,I.free,I.freeC,fun p hp=>(Kq hp).elim (fun z=>I.pin p (Kp _ z)) (h p),I.hok,I.len⟩
theorem kU (hN:N.Nodup) {i j:Nat} (a:N[i]?=some x) (b:N[j]?=some x):i=j:=by
 obtain ⟨h1,e1⟩:=Kw a
 obtain ⟨h2,e2⟩:=Kw b
 exact (List.getElem_inj hN).mp (e1.trans e2.symm)
theorem iM {E:Value->Shared->Prop} {i:Nat} {v:V} {Q:Unit->Shared->Prop} (I:Inv X pins U H s) (hN:X.N.Nodup) (hi:X.N[i]?=some x) (hx:Loc X.env.scope x) (r:RelV v u)
  (h:∀s',Inv X pins (U.set i (some v)) H s'->(∃a,Heap.SameBut a s.heap s'.heap/\(a=X.env.locals\/X.env.cells.lookup x=some a))->Q () s') (hf:X.fn x=true\/X.env.scope.names.lookup x=some .local:=by first | exact .inl rfl | exact .inr rfl | assumption):wpAny M A (storeName X.env x u) Q E s:=by
 obtain ⟨m,hn,hl⟩:=id I.loc;have hcls:(X.env.scope.kind==.class||(X.env.scope.kind==.module&&X.env.locals != X.env.globals))=false:=by rw [I.ok.kind];rfl
 have hiU:i<U.length:=by rw [I.len];exact (Kw hi).1
 have cne:=I.cne
 have tracked:∀{a:Addr} {h':Heap},(∃o,s.heap.get? a=some o/\H a=none)->Heap.SameBut a s.heap h'->HOk X.prog X.w H h':=fun {a h'} ha hs b ob e=>by
  obtain ⟨_,_,hfree⟩:=ha;refine (I.hok b ob e).stay (fun c w' hc q=>(hs.2 c ?_).trans q) (fun _ q=>q) fun _ _ q=>q
  rintro rfl
  rcases hc with rfl | hc
  ·rw [hfree] at e;cases e
  ·rw [hfree] at hc;cases hc
 rcases hx with hk | hk
 ·refine wpAny_storeName_local hk hn (fun h' hn' hs=>?_) hcls
  obtain ⟨oL,_,_,hoL,_⟩:=id hn;refine h _ ⟨I.ok,I.os,I.bare,⟨fun b o e n hb hx=>?_,fun b o e n hb hx=>?_,I.base.free,fun b o e hx=>?_,I.base.tups,I.base.frzs,I.base.tbls⟩,⟨_,hn',fun j y v' e1 e2 e3=>?_⟩,fun y c e=>?_,I.free,I.freeC,fun p hp=>?_,tracked ⟨oL,hoL,I.free⟩ hs,by simpa using I.len⟩ ⟨_,hs,.inl rfl⟩
  ·exact (hs.2 b (Nat.ne_of_lt (Nat.lt_of_lt_of_le (Heap.lt_size e) I.ok.above))).trans (I.base.keep b o e n hb hx)
  ·obtain ⟨sl,e1⟩:=I.base.slot b o e n hb hx
   exact ⟨sl,(hs.2 b (Nat.ne_of_lt (Nat.lt_of_lt_of_le (Heap.lt_size e) I.ok.above))).trans e1⟩
  ·obtain ⟨o',e1⟩:=I.base.there b o e hx
   exact ⟨o',(hs.2 b (Nat.ne_of_lt (Nat.lt_of_lt_of_le (Heap.lt_size e) I.ok.above))).trans e1⟩
  ·by_cases hj:j=i
   ·subst hj
    rw [hi] at e1;cases e1;rw [getElem?_set_self hiU] at e2
    cases e2;exact ⟨u,r,.inl ⟨hk,by simp⟩⟩
   ·rw [getElem?_set_ne (Ne.symm hj)] at e2
    obtain ⟨u',r',q⟩:=hl j y v' e1 e2 e3
    refine ⟨u',r',?_⟩
    rcases q with ⟨k,e⟩ | ⟨k,c,e,z⟩
    ·refine .inl ⟨k,?_⟩
     have:y≠x:=fun e=>hj (kU hN e1 (e▸hi))
     simp [this,e]
    ·exact .inr ⟨k,c,e,z.sameBut hs (cne y c e)⟩
  ·obtain ⟨w',z⟩:=I.cell y c e
   exact ⟨w',z.sameBut hs (cne y c e)⟩
  ·obtain ⟨e,n,ne,nf,d⟩:=I.pin p hp
   exact ⟨(hs.2 p.1 ne).trans e,n,ne,nf,d⟩
 ·have hfn:X.fn x=true:=by
   rcases hf with z | z
   ·exact z
   ·rw [z] at hk;cases hk
  obtain ⟨c,hc⟩:=I.ok.has x (.inl hk);obtain ⟨w',z⟩:=I.cell x c hc;refine wpAny_storeName_cell I.ok.kind hk hc z (fun h' hc' hs=>?_)
  obtain ⟨oc,hoc,hocd⟩:=id z;refine h { s with heap:=h' } ⟨I.ok,I.os,I.bare,⟨fun b o e n hb hx=>?_,fun b o e n hb hx=>?_,I.base.free,fun b o e hx=>?_,I.base.tups,I.base.frzs,I.base.tbls⟩,⟨m,hn.sameBut hs (Ne.symm (cne x c hc)),fun j y v' e1 e2 e3=>?_⟩,fun y c' e=>?_,I.free,I.freeC,fun p hp=>?_,tracked ⟨oc,hoc,I.freeC x c hc⟩ hs,by simpa using I.len⟩ ⟨c,hs,.inr hc⟩
  ·exact (hs.2 b (Nat.ne_of_lt (Nat.lt_of_lt_of_le (Heap.lt_size e) (I.ok.cab x c hfn hc)))).trans (I.base.keep b o e n hb hx)
  ·obtain ⟨sl,e1⟩:=I.base.slot b o e n hb hx
   exact ⟨sl,(hs.2 b (Nat.ne_of_lt (Nat.lt_of_lt_of_le (Heap.lt_size e) (I.ok.cab x c hfn hc)))).trans e1⟩
  ·obtain ⟨o',e1⟩:=I.base.there b o e hx
   exact ⟨o',(hs.2 b (Nat.ne_of_lt (Nat.lt_of_lt_of_le (Heap.lt_size e) (I.ok.cab x c hfn hc)))).trans e1⟩
  ·by_cases hj:j=i
   ·subst hj
    rw [hi] at e1;cases e1;rw [getElem?_set_self hiU] at e2
    cases e2;exact ⟨u,r,.inr ⟨.inl hk,c,hc,hc'⟩⟩
   ·rw [getElem?_set_ne (Ne.symm hj)] at e2
    obtain ⟨u',r',q⟩:=hl j y v' e1 e2 e3
    refine ⟨u',r',?_⟩
    rcases q with q | ⟨k,c',e,z'⟩
    ·exact .inl q
    ·refine .inr ⟨k,c',e,z'.sameBut hs ?_⟩
     rintro rfl
     exact hj (kU hN e1 (I.ok.inj _ _ _ e hc▸hi))
  ·by_cases hcc:c'=c
   ·subst hcc;exact ⟨_,hc'⟩
   ·obtain ⟨w2,z2⟩:=I.cell y c' e
    exact ⟨w2,z2.sameBut hs hcc⟩
  ·obtain ⟨e,n,ne,nf,d⟩:=I.pin p hp
   refine ⟨(hs.2 p.1 ?_).trans e,n,ne,nf,d⟩
   intro q;rw [q,hoc] at e;have q':oc=p.2:=Option.some.inj e
   exact d w' (by rw [<-q'];exact hocd)
theorem kd {E:Value->Shared->Prop} {i:Nat} {v:V} {Q:Unit->Shared->Prop} (I:Inv X pins U H s) (hN:X.N.Nodup) (hi:X.N[i]?=some x) (hx:Loc X.env.scope x) (r:RelV v u)
  (h:∀s',Inv X pins (U.set i (some v)) H s'->Q () s') (hf:X.fn x=true\/X.env.scope.names.lookup x=some .local:=by first | exact .inl rfl | exact .inr rfl | assumption):wpAny M A (storeName X.env x u) Q E s:=
 iM I hN hi hx r (fun s' I' _=>h s' I') hf
theorem Inv.call' (I:Inv X pins U H s) (ho:s'.os=s.os) (u:Un (uf X.stack) ch H H' s.heap s'.heap) (hok:HOk X.prog X.w H' s'.heap) (hg:AllBare s'.gens)
  (hch:∀b∈ch,(b∈X.ex\/X.s₀.heap.objs.size<=b)/\b≠X.env.locals/\(∀x c,X.env.cells.lookup x=some c->c≠b)/\∀p∈X.pn++pins,p.1≠b):Inv X pins U H' s':=by
 obtain ⟨h',g',d',t',o'⟩:=s'
 have e:o'=s.os:=ho
 subst e;exact I.call (g':=g') (t':=t') (d':=d') u hok hg hch
end
abbrev XK:=Value->Option Addr->Hp->Prop
abbrev St:=List (Option V)
abbrev VK:=V->Hp->Prop
abbrev TE:=St->Hp->VK->Prop
abbrev TT:=St->Hp->(Bool->Hp->Prop)->Prop
abbrev TA:=St->Hp->(List V->Hp->Prop)->Prop
structure cJ where
 nx:St->Hp->Prop
 rt:VK
 bk:St->Hp->Prop:=fun _ _=>False
 ct:St->Hp->Prop:=fun _ _=>False
abbrev TS:=cJ->St->Hp->Prop
def EP (X:Cx) (pins:List (Addr×Obj)) (U:St) (Q:VK) (u:Value) (s':Shared):Prop:=∃v H',Inv X pins U H' s'/\RelV v u/\Q v H'
def TP (X:Cx) (pins:List (Addr×Obj)) (U:St) (Q:Bool->Hp->Prop) (b:Bool) (s':Shared):Prop:=∃H',Inv X pins U H' s'/\Q b H'
def AP (X:Cx) (pins:List (Addr×Obj)) (U:St) (Q:List V->Hp->Prop) (us:List Value) (s':Shared):Prop:=∃vs H',Inv X pins U H' s'/\Vals vs us/\Q vs H'
def SP (X:Cx) (pins:List (Addr×Obj)) (D:cJ) (f:Flow) (s':Shared):Prop:=
 match f with
 | .next=>∃U' H',Inv X pins U' H' s'/\D.nx U' H'
 | .brk=>∃U' H',Inv X pins U' H' s'/\D.bk U' H'
 | .cont=>∃U' H',Inv X pins U' H' s'/\D.ct U' H'
 | .ret u=>∃v U' H',Inv X pins U' H' s'/\RelV v u/\D.rt v H'
def PE (X:Cx) (e:Expr) (t:TE):Prop:=
 ∀(pins:List (Addr×Obj)) (s:Shared) (U:St) (H:Hp) (Q:VK),Inv X pins U H s->t U H Q->wpAny (model X.prog X.w) X.A (eval e X.env) (EP X pins U Q) X.xe s
def PT (X:Cx) (e:Expr) (t:TT):Prop:=
 ∀(pins:List (Addr×Obj)) (s:Shared) (U:St) (H:Hp) (Q:Bool->Hp->Prop),Inv X pins U H s->t U H Q->wpAny (model X.prog X.w) X.A (isTrue e X.env (eval e X.env)) (TP X pins U Q) X.xe s
def PW (X:Cx) (e:Expr) (t:TT):Prop:=
 ∀(whole:Sem Value) (pins:List (Addr×Obj)) (s:Shared) (U:St) (H:Hp) (Q:Bool->Hp->Prop),Inv X pins U H s->t U H Q->wpAny (model X.prog X.w) X.A (isTrue e X.env whole) (TP X pins U Q) X.xe s
theorem PW.pt {X:Cx} {t:TT} (h:PW X e t):PT X e t:=h _
def PA (X:Cx) (es:List Expr) (t:TA):Prop:=
 ∀(pos:Pos) (pins:List (Addr×Obj)) (s:Shared) (U:St) (H:Hp) (Q:List V->Hp->Prop),Inv X pins U H s->t U H Q->wpAny (model X.prog X.w) X.A (spliced (backTo pos (starEach es X.env))) (AP X pins U Q) X.xe s
def PS (X:Cx) (st:Stmt) (t:TS):Prop:=
 ∀(pins:List (Addr×Obj)) (s:Shared) (U:St) (H:Hp) (D:cJ),Inv X pins U H s->t D U H->wpAny (model X.prog X.w) X.A (exec st X.env) (SP X pins D) X.xe s
def PSs (X:Cx) (st:List Stmt) (t:TS):Prop:=
 ∀(pins:List (Addr×Obj)) (s:Shared) (U:St) (H:Hp) (D:cJ),Inv X pins U H s->t D U H->wpAny (model X.prog X.w) X.A (execs st X.env) (SP X pins D) X.xe s
theorem bg {t:Sem α} {Q Q':α->Shared->Prop} {E:Value->Shared->Prop} {s:Shared} (h:wpAny M A t Q E s) (hQ:∀a s,Q a s->Q' a s):wpAny M A t Q' E s:=wpAny_mono h hQ fun _ _ x=>x
section
variable {X:Cx}
def ai (i:Nat):TE:=fun U H Q=>∃v,U[i]?=some (some v)/\Q v H
def tC (v:V):TE:=fun _ H Q=>Q v H
theorem xI {i:Nat} (hN:X.N[i]?=some x) (hv:BP X.env.scope x) (hd:(x==("__debug__":Str))=false:=by decide) (hcd:(x==("__classdict__":Str))=false:=by decide):PE X (.Name x pos) (ai i):=by
 intro pins s U H Q I h;obtain ⟨v,e,h⟩:=h;obtain ⟨m,hn,hl⟩:=I.loc;obtain ⟨u,r,l⟩:=hl i x v hN e hv;have fin:EP X pins U Q u s:=⟨v,H,I,r,h⟩
 rcases l with ⟨hk,hm⟩ | ⟨hk,c,hc,hcell⟩
 ·exact wpAny_Name (wpAny_loadName_local I.ok.kind hk hn hm fin) hd
 ·rcases hk with hk | hk
  ·exact wpAny_Name (wpAny_loadName_cell I.ok.kind hk hc hcell fin) hd
  ·exact wpAny_Name (wpAny_loadName_free I.ok.kind hk hc hcell fin hcd) hd
theorem Gp {i j pos}:PE X (.Constant (.int i) j pos) (tC (.int i)):=fun _ _ _ H _ I h=>wpAny_Constant_int ⟨.int i,H,I.tok _,⟨_,rfl⟩,h⟩
theorem dM {b j pos}:PE X (.Constant (.bool b) j pos) (tC (.bl b)):=fun _ _ _ H _ I h=>Constant_bool ⟨.bl b,H,I,rfl,h⟩
theorem Bx {j pos}:PE X (.Constant .none j pos) (tC .non):=fun _ _ _ H _ I h=>Constant_none ⟨.non,H,I,rfl,h⟩
theorem Gq {x j pos}:PE X (.Constant (.str x) j pos) (tC (.str x)):=fun _ _ _ H _ I h=>Calls.Constant_str ⟨.str x,H,I.tok _,⟨_,rfl⟩,h⟩
def Gl (X:Cx) (x:Str):Prop:=X.env.kindOf x=some .globalImplicit
theorem oF {E:Value->Shared->Prop} {s:Shared} {U:St} {H:Hp} {Q:Value->Shared->Prop} (I:Inv X pins U H s) (hg:Gl X x) (hm:X.mg x=some u) (h:Q u s)
  (hd:(x==("__debug__":Str))=false:=by decide):wpAny (model X.prog X.w) X.A (eval (.Name x pos) X.env) Q E s:=
 Calls.Name_function_global I.ok.kind hg (Calls.loadGlobal_global (by rw [I.ok.glob];exact I.mod.glob.keeps I.bk) hm h) hd
theorem yK {E:Value->Shared->Prop} {s:Shared} {U:St} {H:Hp} {Q:Value->Shared->Prop} (I:Inv X pins U H s) (hg:Gl X x) (hm:X.mg x=none) (hv:bootBuiltins x=some u) (h:Q u s)
  (hn:x ≠ "__name__":=by decide) (hd:(x==("__debug__":Str))=false:=by decide):wpAny (model X.prog X.w) X.A (eval (.Name x pos) X.env) Q E s:=by
 obtain ⟨mb,h1,h2⟩:=I.mod.blt;exact Calls.Name_function_global I.ok.kind hg (Calls.loadGlobal_builtin (by rw [I.ok.glob];exact I.mod.glob.keeps I.bk) hm (by rw [I.ok.blt];exact h1.keeps I.bk) ((h2 x hn).trans hv) h) hd
theorem wg {v:V} (hg:Gl X x) (hm:X.mg x=some u) (r:RelV v u) (hd:(x==("__debug__":Str))=false:=by decide):PE X (.Name x pos) (tC v):=
 fun _ _ _ H _ I h=>oF I hg hm ⟨v,H,I,r,h⟩ hd
variable {a b:Expr} {ta tb:TE} {pos:Pos}
def PC (X:Cx) (op:CmpOp) (a b:Expr) (t:TE):Prop:=
 ∀(pins:List (Addr×Obj)) (s:Shared) (U:St) (H:Hp) (Q:VK),Inv X pins U H s->t U H Q ->
  wpAny (model X.prog X.w) X.A (eval a X.env) (fun v s₁=>wpAny (model X.prog X.w) X.A (eval b X.env) (fun u s₂=>wpAny (model X.prog X.w) X.A (compareOp op v u) (EP X pins U Q) X.xe s₂) X.xe s₁) X.xe s
def tB (t:TE):TT:=fun U H Q=>t U H fun x H1=>∃c,x=.bl c/\Q c H1
theorem sU {op:CmpOp} {t:TE} (h:PC X op a b t) (h1:behindInMarks op b=false:=by first | exact nobehind _ (by decide) (by decide) | rfl):PE X (.Compare a [op] [b] pos) t:=fun pins s U H Q I hw=>wpAny_Compare1 (h pins s U H Q I hw) h1
theorem Bz {op:CmpOp} {t:TE} (h:PC X op a b t) (h1:behindInMarks op b=false:=by first | exact nobehind _ (by decide) (by decide) | rfl):PT X (.Compare a [op] [b] pos) (tB t):=by
 intro pins s U H Q I hw;refine wpAny_isTrue_Compare1 (bg (h pins s U H _ I hw) fun v s1 h1=>bg h1 fun u s2 h2=>bg h2 fun c s3 ⟨x,H1,I1,r1,q1⟩=>?_) h1
 obtain ⟨d,rfl,q⟩:=q1
 cases r1;exact wpAny_truthy_bool ⟨H1,I1,q⟩
theorem sJ {t:TE} (h:PE X e t) (he:∀whole,isTrue e X.env whole=(do let v <-whole;standAt e.pos;holding [v] (truthy v)):=by intro _;rfl):PT X e (tB t):=by
 intro pins s U H Q I hw;refine isTrue_plain (bg (h pins s U H _ I hw) fun v s1 ⟨x,H1,I1,r1,q1⟩=>?_) (he _)
 obtain ⟨d,rfl,q⟩:=q1
 cases r1;exact wpAny_truthy_bool ⟨H1,I1,q⟩
variable {tA tB':TT} {rest:List Expr}
def Cz (t u:TT):TT:=fun U H Q=>t U H fun c H1=>if c=true then u U H1 Q else Q false H1
def Js (t u:TT):TT:=fun U H Q=>t U H fun c H1=>if c=true then Q true H1 else u U H1 Q
def zd (t:TT):TT:=fun U H Q=>t U H fun c H1=>Q (!c) H1
theorem v7 (ha:PT X a tA):PW X (.BoolOp .And [a] pos) tA:=by
 intro wh pins s U H Q I h;refine isTrue_and (bg (ha pins s U H Q I h) fun c s1 e=>?_)
 cases c with
 | true=>exact isTrue_and_nil e
 | false=>exact e
theorem zP (ha:PT X a tA):PW X (.BoolOp .Or [a] pos) tA:=by
 intro wh pins s U H Q I h;refine isTrue_or (bg (ha pins s U H Q I h) fun c s1 e=>?_)
 cases c with
 | false=>exact isTrue_or_nil e
 | true=>exact e
theorem zQ (ha:PT X a tA) (hb:PW X (.BoolOp .And (b::rest) pos) tB'):PW X (.BoolOp .And (a::b::rest) pos) (Cz tA tB'):=by
 intro wh pins s U H Q I h;refine isTrue_and (bg (ha pins s U H _ I h) fun c s1 ⟨H1,I1,q1⟩=>?_)
 cases c with
 | true=>exact hb wh pins s1 U H1 Q I1 q1
 | false=>exact ⟨H1,I1,q1⟩
theorem Df (ha:PT X a tA) (hb:PW X (.BoolOp .Or (b::rest) pos) tB'):PW X (.BoolOp .Or (a::b::rest) pos) (Js tA tB'):=by
 intro wh pins s U H Q I h;refine isTrue_or (bg (ha pins s U H _ I h) fun c s1 ⟨H1,I1,q1⟩=>?_)
 cases c with
 | true=>exact ⟨H1,I1,q1⟩
 | false=>exact hb wh pins s1 U H1 Q I1 q1
theorem sL (ha:PT X a tA):PT X (.UnaryOp .Not a pos) (zd tA):=by
 intro pins s U H Q I h;exact isTrue_not (ha pins s U H (fun c H1=>Q (!c) H1) I h)
def rC (ta tb:TE):TE:=fun U H Q=>ta U H fun x H1=>∃c,x=.bl c/\if c=true then tb U H1 Q else Q (.bl false) H1
theorem pe_one {op} {t:TE} (h:PE X a t):PE X (.BoolOp op [a] pos) t:=fun pins s U H Q I hw=>BoolOp_one (h pins s U H Q I hw)
theorem sX (ha:PE X a ta) (hb:PE X (.BoolOp .And (b::rest) pos) tb):PE X (.BoolOp .And (a::b::rest) pos) (rC ta tb):=by
 intro pins s U H Q I h;refine BoolOp_and (bg (ha pins s U H _ I h) fun v s1 ⟨x,H1,I1,r1,q1⟩=>?_)
 obtain ⟨c,rfl,q1⟩:=q1
 cases r1;refine wpAny_truthy_bool ?_
 cases c with
 | true=>exact hb pins s1 U H1 Q I1 q1
 | false=>exact ⟨.bl false,H1,I1,rfl,q1⟩
def HQ (t:TT) (ta tb:TE):TE:=fun U H Q=>t U H fun c H1=>if c=true then ta U H1 Q else tb U H1 Q
theorem kH (hc:PT X c tA) (ha:PE X a ta) (hb:PE X b tb):PE X (.IfExp c a b pos) (HQ tA ta tb):=by
 intro pins s U H Q I h;refine wpAny_IfExp (bg (hc pins s U H _ I h) fun d s1 ⟨H1,I1,q1⟩=>?_)
 cases d with
 | true=>exact ha pins s1 U H1 Q I1 q1
 | false=>exact hb pins s1 U H1 Q I1 q1
end
def SqL (K:Fg) (H:Hp) (a:Addr) (xs:List V):Prop:=
 Rd H a (.lst xs) \/
  ∃(o:Obj) (its:Array Value) (n:Nat),K.lookup a=some o/\o.cls=.type "list"/\o.dict=none/\o.data=.seq its n/\its.size<=sizeLine/\Vals xs its.toList
def SqT (K:Fg) (H:Hp) (a:Addr) (xs:List V):Prop:=
 Rd H a (.tup xs) \/
  ∃(o:Obj) (its:Array Value) (n:Nat),K.lookup a=some o/\o.cls=.type "tuple"/\o.data=.seq its n/\its.size<=sizeLine/\Vals xs its.toList
def IY:Value->Option V
 | .none=>some .non
 | .bool b=>some (.bl b)
 | .int i _=>some (.int i)
 | .str x _=>some (.str x)
 | .bytes b _=>some (.byt b)
 | .float b _=>some (.flt b)
 | .ref a=>some (.ref a)
 | .type n=>some (.ty n)
 | _=>none
theorem RelV.abs {x:V} (r:RelV x u):IY u=some x:=by
 cases x with
 | non=>cases r;rfl
 | bl _=>cases r;rfl
 | int _=>obtain ⟨t,rfl⟩:=r;rfl
 | str _=>obtain ⟨t,rfl⟩:=r;rfl
 | byt _=>obtain ⟨t,rfl⟩:=r;rfl
 | flt _=>obtain ⟨t,rfl⟩:=r;rfl
 | ref _=>cases r;rfl
 | ty _=>cases r;rfl
theorem RelV.inj {x y:V} (r:RelV x u) (q:RelV y u):x=y:=Option.some.inj (r.abs.symm.trans q.abs)
theorem Vals.inj:∀{xs ys:List V} {us:List Value},Vals xs us->Vals ys us->xs=ys
 | _,_,_,.nil,.nil=>rfl
 | _,_,_,.cons r t,.cons r' t'=>by rw [r.inj r',Vals.inj t t']
section
variable {X:Cx} {pins:List (Addr×Obj)} {U:St} {H:Hp} {s:Shared} {a:Addr} {xs ys:List V}
theorem SqL.of (h:H a=some (.lst xs)):SqL K H a xs:=.inl (.inl h)
theorem SqT.of (h:H a=some (.tup xs)):SqT K H a xs:=.inl (.inl h)
theorem Inv.list (I:Inv X pins U H s) (h:SqL X.K H a xs):∃its:List Value,Vals xs its/\PlainL s.heap a its.toArray/\xs.length<=sizeLine:=by
 rcases h with h | ⟨o,its,n,hk,hc,hd,hs,hz,r⟩
 ·obtain ⟨z,its,n,r,e⟩:=h.ok I.hok
  exact ⟨its,r,⟨_,n,e,rfl,rfl,rfl⟩,z⟩
 ·refine ⟨its.toList,r,⟨o,n,I.kIn a o hk,hc,hd,by simpa using hs⟩,?_⟩
  have e:=r.length
  simp only [Array.length_toList] at e
  omega
theorem Inv.tuple (I:Inv X pins U H s) (h:SqT X.K H a xs):∃its:List Value,Vals xs its/\IsTup s.heap a its.toArray/\xs.length<=sizeLine:=by
 rcases h with h | ⟨o,its,n,hk,hc,hs,hz,r⟩
 ·obtain ⟨z,its,r,p⟩:=h.ok I.hok
  exact ⟨its,r,p,z⟩
 ·refine ⟨its.toList,r,⟨o,I.kIn a o hk,hc,n,by simpa using hs⟩,?_⟩
  have e:=r.length
  simp only [Array.length_toList] at e
  omega
theorem Inv.list_inj (I:Inv X pins U H s) (h:SqL X.K H a xs) (h':SqL X.K H a ys):xs=ys:=by
 obtain ⟨its,r,⟨o,n,e,_,_,d⟩,_⟩:=I.list h;obtain ⟨its',r',⟨o',n',e',_,_,d'⟩,_⟩:=I.list h'
 rw [e] at e';cases e'
 rw [d] at d';injection d' with d1 _
 have:its=its':=by simpa using congrArg Array.toList d1
 subst this;exact r.inj r'
theorem Inv.tuple_inj (I:Inv X pins U H s) (h:SqT X.K H a xs) (h':SqT X.K H a ys):xs=ys:=by
 obtain ⟨its,r,⟨o,e,_,n,d⟩,_⟩:=I.tuple h;obtain ⟨its',r',⟨o',e',_,n',d'⟩,_⟩:=I.tuple h'
 rw [e] at e';cases e'
 rw [d] at d';injection d' with d1 _
 have:its=its':=by simpa using congrArg Array.toList d1
 subst this;exact r.inj r'
end
abbrev Cx.wish (X:Cx) (E:Value->Shared->Prop):Cx:={ X with xe:=E }
abbrev Cx.nox (X:Cx):Cx:=X.wish fun _ _=>False
theorem Cx.Ok.wish {X:Cx} (ok:X.Ok) (E:Value->Shared->Prop):(X.wish E).Ok:=
 ⟨ok.mod,ok.kind,ok.glob,ok.blt,ok.above,ok.inj,ok.has,ok.cab,ok.hd,ok.frames,ok.stk,ok.exf,ok.bs,ok.bsz,ok.noex,ok.exfs,ok.funs,ok.frf⟩
theorem Cx.Ok.unwish {X:Cx} {E:Value->Shared->Prop} (ok:(X.wish E).Ok):X.Ok:=
 ⟨ok.mod,ok.kind,ok.glob,ok.blt,ok.above,ok.inj,ok.has,ok.cab,ok.hd,ok.frames,ok.stk,ok.exf,ok.bs,ok.bsz,ok.noex,ok.exfs,ok.funs,ok.frf⟩
section
variable {X:Cx} {pins:List (Addr×Obj)} {U:St} {H:Hp} {s:Shared} {E:Value->Shared->Prop}
theorem Inv.wish (I:Inv X pins U H s) (E:Value->Shared->Prop):Inv (X.wish E) pins U H s:=⟨I.ok.wish E,I.os,I.bare,I.base,I.loc,I.cell,I.free,I.freeC,I.pin,I.hok,I.len⟩
theorem Inv.unwish (I:Inv (X.wish E) pins U H s):Inv X pins U H s:=⟨I.ok.unwish,I.os,I.bare,I.base,I.loc,I.cell,I.free,I.freeC,I.pin,I.hok,I.len⟩
theorem SP.unwish {D:cJ} {f:Flow} (h:SP (X.wish E) pins D f s'):SP X pins D f s':=by
 cases f with
 | next=>obtain ⟨U',H',I,q⟩:=h;exact ⟨U',H',I.unwish,q⟩
 | brk=>obtain ⟨U',H',I,q⟩:=h;exact ⟨U',H',I.unwish,q⟩
 | cont=>obtain ⟨U',H',I,q⟩:=h;exact ⟨U',H',I.unwish,q⟩
 | ret u=>obtain ⟨v,U',H',I,r,q⟩:=h;exact ⟨v,U',H',I.unwish,r,q⟩
theorem PSs.nox {st:List Stmt} {t:TS} (h:PSs X.nox st t):PSs X st t:=fun pins s U H D I hw=>
 wpAny_mono (h pins s U H D (I.wish _) hw) (fun _ _ q=>q.unwish) fun _ _ z=>False.elim z
end
section
variable {X:Cx} {st:Stmt} {rest:List Stmt} {t u:TS} {e:Expr} {te:TE} {pos:Pos}
def cN:TS:=fun D U H=>D.nx U H
def aS (t u:TS):TS:=fun D U H=>t { D with nx:=u D } U H
theorem pe:PSs X [] cN:=fun _ _ U H _ I h=>wpAny_execs_nil ⟨U,H,I,h⟩
theorem cK (h1:PS X st t) (h2:PSs X rest u):PSs X (st::rest) (aS t u):=by
 intro pins s U H D I h;refine wpAny_execs_cons (bg (h1 pins s U H { D with nx:=u D } I h) fun f s1 q=>?_)
 cases f with
 | next=>
  obtain ⟨U',H',I',q⟩:=q;exact h2 pins s1 U' H' D I' q
 | ret v=>exact q
 | brk=>exact q
 | cont=>exact q
theorem dv (h1:PS X st t):PSs X [st] t:=by
 intro pins s U H D I h;refine wpAny_execs_cons (bg (h1 pins s U H D I h) fun f s1 q=>?_)
 cases f with
 | next=>exact wpAny_execs_nil q
 | ret v=>exact q
 | brk=>exact q
 | cont=>exact q
theorem Inv.quiet {U:St} {H:Hp} {s:Shared} (I:Inv X pins U H s):interactive X.env=false:=by simp [interactive,I.ok.kind]
def df (te:TE):TS:=fun D U H=>te U H fun _ H1=>D.nx U H1
theorem pb (he:PE X e te) (hs:swapsWith e none pos.line X.env=pure false:=by rfl):PS X (.Expr e pos) (df te):=by
 intro pins s U H D I h;exact wpAny_Expr_any (bg (he pins s U H _ I h) fun v s1 ⟨x,H1,I1,r1,q1⟩=>⟨U,H1,I1,q1⟩) I.quiet hs
def cE (te:TE):TS:=fun D U H=>te U H D.rt
theorem iH (he:PE X e te):PS X (.Return (some e) pos) (cE te):=by
 intro pins s U H D I h;exact wpAny_Return_some (bg (he pins s U H _ I h) fun v s1 ⟨x,H1,I1,r1,q1⟩=>⟨x,U,H1,I1,r1,q1⟩)
def eN (c:TT) (t u:TS):TS:=fun D U H=>c U H fun b H1=>if b=true then t D U H1 else u D U H1
theorem dh {a b:List Stmt} {tc:TT} (hc:PT X c tc) (ha:PSs X a t) (hb:PSs X b u):PS X (.If c a b pos) (eN tc t u):=by
 intro pins s U H D I h;refine wpAny_If (bg (hc pins s U H _ I h) fun d s1 ⟨H1,I1,q1⟩=>?_)
 cases d with
 | true=>exact ha pins s1 U H1 D I1 q1
 | false=>exact hb pins s1 U H1 D I1 q1
end
abbrev TG:=V->St->Hp->(St->Hp->Prop)->Prop
abbrev Bf:=List V->St->Hp->(St->Hp->Prop)->Prop
def PG (X:Cx) (target:Expr) (t:TG):Prop:=
 ∀(pins:List (Addr×Obj)) (s:Shared) (U:St) (H:Hp) (v:V) (u:Value) (Q:St->Hp->Prop),Inv X pins U H s->RelV v u->t v U H Q ->
  wpAny (model X.prog X.w) X.A (assign target X.env u) (fun _ s'=>∃U' H',Inv X pins U' H' s'/\Q U' H') X.xe s
def F9 (X:Cx) (ts:List Expr) (t:Bf):Prop:=
 ∀(pins:List (Addr×Obj)) (s:Shared) (U:St) (H:Hp) (vs:List V) (us:List Value) (Q:St->Hp->Prop),Inv X pins U H s->Vals vs us->t vs U H Q ->
  wpAny (model X.prog X.w) X.A (assignInOrder ((assignEach ts X.env).map (·.2)) us) (fun _ s'=>∃U' H',Inv X pins U' H' s'/\Q U' H') X.xe s
section
variable {X:Cx} {pos:Pos}
def av (i:Nat):TG:=fun v U H Q=>Q (U.set i (some v)) H
theorem mi {i:Nat} (hN:X.N.Nodup) (hi:X.N[i]?=some x) (hx:Loc X.env.scope x) (hf:X.fn x=true\/X.env.scope.names.lookup x=some .local:=by first | exact .inl rfl | exact .inr rfl | assumption):PG X (.Name x pos) (av i):=by
 intro pins s U H v u Q I r h;exact wpAny_assign_Name (kd I hN hi hx r (fun s' I'=>⟨_,H,I',h⟩) hf)
def w4:Bf:=fun vs U H Q=>vs=[]/\Q U H
def g5 (t:TG) (u:Bf):Bf:=fun vs U H Q=>∃v r,vs=v::r/\t v U H fun U' H'=>u r U' H' Q
theorem GM:F9 X [] w4:=by
 intro pins s U H vs us Q I r h;obtain ⟨e,h⟩:=h;subst e
 cases r;exact assignInOrder_nil ⟨U,H,I,h⟩
theorem BG {t:TG} {u:Bf} (h1:PG X e t) (h2:F9 X es u)
  (hs:(assignEach (e::es) X.env).map (·.2)=assign e X.env::(assignEach es X.env).map (·.2):=by rfl):F9 X (e::es) (g5 t u):=by
 intro pins s U H vs us Q I r h;obtain ⟨v,vr,e1,h⟩:=h;subst e1
 cases r with
 | cons r rr=>
  rw [hs];refine assignInOrder_cons (bg (h1 pins s U H _ _ _ I r h) fun _ s1 ⟨U1,H1,I1,q1⟩=>?_)
  exact h2 pins s1 U1 H1 _ _ Q I1 rr q1
def wX (K:Fg) (n:Nat) (t:Bf):TG:=fun v U H Q=>∃a xs,v=.ref a/\SqT K H a xs/\xs.length=n/\t xs U H Q
theorem Gr {k:Nat} {t:Bf} (hc:X.calm=true) (h:F9 X es t)
  (hn:(assignEach es X.env).length=n:=by rfl) (hst:(assignEach es X.env).findIdx? (·.1)=none:=by rfl):PG X (.Tuple es k pos) (wX X.K n t):=by
 intro pins s U H v u Q I r hw;obtain ⟨a,xs,e1,hq,hl,hw⟩:=hw;subst e1
 cases r;obtain ⟨its,rv,ht,hz⟩:=I.tuple hq;refine assign_Tuple_tuple (I.ok.hd hc) ht (by simp [hn,<-hl,rv.length]) hst fun h' hx=>?_
 have I1:Inv X pins U H { s with heap:=h' }:=I.kept (t':=s.toks) fun b o e=>hx b o (Nat.ne_of_lt (Heap.lt_size e)) e
 exact h pins _ U H xs _ Q I1 (by simpa using rv) hw
def b5 (te:TE) (g:TG):TS:=fun D U H=>te U H fun x H1=>g x U H1 D.nx
theorem qH {i:Nat} {te:TE} {pos':Pos} (hN:X.N.Nodup) (hi:X.N[i]?=some x) (hx:Loc X.env.scope x) (he:PE X e te) (hs:swapsWith e (some (.Name x pos')) pos.line X.env=pure false:=by rfl) (hf:X.fn x=true\/X.env.scope.names.lookup x=some .local:=by first | exact .inl rfl | exact .inr rfl | assumption) :
  PS X (.Assign [.Name x pos'] e pos) (b5 te (av i)):=by
 intro pins s U H D I h;refine wpAny_Assign_Name (bg (he pins s U H _ I h) fun v s1 ⟨y,H1,I1,r1,q1⟩=>?_) hs
 exact kd I1 hN hi hx r1 (fun s2 I2=>⟨_,H1,I2,q1⟩) hf
end
section
variable {X:Cx} {pos:Pos}
def xK (c:TT) (tb:TS):TS:=fun D U H=>∃W:Nat->St->Hp->Prop,(∃m,W m U H)/\∀m U H,W m U H ->
 c U H fun b H1=>if b=true then ∃N:St->Hp->Prop,(∀U' H',N U' H'->∃m',m'<m/\W m' U' H')/\tb { D with nx:=N,ct:=N,bk:=D.nx } U H1 else D.nx U H1
theorem E8 {body:List Stmt} {tc:TT} {tb:TS} (hp:PassesOwn (model X.prog X.w) X.A X.env X.xe) (hc:PT X c tc) (hb:PSs X body tb):PS X (.While c body [] pos) (xK tc tb):=by
 intro pins s U H D I h;obtain ⟨W,⟨m0,w0⟩,turn⟩:=h;refine wpAny_While (codeAny_whileLoop (fun n s'=>∃U' H',Inv X pins U' H' s'/\W n U' H') ?_ m0 ⟨U,H,I,w0⟩)
 rintro n s1 ⟨U1,H1,I1,w1⟩
 refine wpAny_passesOwn hp (bg (hc pins s1 U1 H1 _ I1 (turn n U1 H1 w1)) fun b s2 ⟨H2,I2,q2⟩=>?_)
 cases b with
 | true=>
  obtain ⟨N,hN,q2⟩:=q2;rw [if_pos rfl];refine wpAny_passesOwn hp (bg (hb pins s2 U1 H2 _ I2 q2) fun f s3 q3=>?_)
  cases f with
  | next=>
   obtain ⟨U3,H3,I3,n3⟩:=q3;obtain ⟨m',hm,w3⟩:=hN U3 H3 n3;exact ⟨m',hm,U3,H3,I3,w3⟩
  | cont=>
   obtain ⟨U3,H3,I3,n3⟩:=q3;obtain ⟨m',hm,w3⟩:=hN U3 H3 n3;exact ⟨m',hm,U3,H3,I3,w3⟩
  | brk=>exact q3
  | ret v=>exact q3
 | false=>
  rw [if_neg Bool.false_ne_true];exact wpAny_execs_nil ⟨U1,H2,I2,q2⟩
end
structure It where
 go:Nat->Hp->Prop
 yld:Nat->Hp->V->Hp->Prop
 stop:Nat->Hp->Prop
def iG (X:Cx) (pins:List (Addr×Obj)) (H:Hp) (b:Addr):Prop:=
 H b=none/\b≠X.env.locals/\b∉X.fs/\(b∈X.ex\/X.s₀.heap.objs.size<=b)/\(∀x c,X.env.cells.lookup x=some c->c≠b)/\∀p∈X.pn++pins,p.1≠b
theorem Inv.fpOk {X:Cx} {U:St} {H H':Hp} {s:Shared} (I:Inv X pins U H s) (hb:s.heap.objs.size<=b) (hn:H' b=none):iG X pins H' b:=by
 refine ⟨hn,Nat.ne_of_gt (Nat.lt_of_lt_of_le I.lt hb),I.nofs hb,.inr (Nat.le_trans I.sz hb),fun x c e z=>?_,fun p hp z=>?_⟩
 ·obtain ⟨v,q⟩:=I.cell x c e
  exact absurd (Nat.lt_of_lt_of_le q.lt (by rw [z];exact hb)) (Nat.lt_irrefl _)
 ·exact absurd (Nat.lt_of_lt_of_le (Heap.lt_size (I.pin p hp).1) (by rw [z];exact hb)) (Nat.lt_irrefl _)
structure qG (P:Program) (w:World) (K:Fg) (tg:Expr) (J:It) (fp:List Addr) (it:Addr) (tn:Nat->Heap->Prop):Prop where
 mem:it∈fp
 obj:∀i h,tn i h->∀b∈fp,∃o,h.get? b=some o/\∀v,o.data≠.cell v
 keep:∀i h h',tn i h->(∀b∈fp,∀o,h.get? b=some o->h'.get? b=some o)->tn i h'
 item:∀(X:Cx),X.prog=P->X.w=w->X.K=K->X.calm=true->∀(i:Nat) (pins:List (Addr×Obj)) (s:Shared) (U:St) (H:Hp) (E:Value->Shared->Prop),Inv X pins U H s->(∀b∈fp,iG X pins H b)->tn i s.heap->J.go i H ->
  wpAny (model P w) X.A (pyNext (.ref it)) (fun r s1=>∃u,r=some u /\
   wpAny (model P w) X.A (letOwnedTupleGo tg (.ref it) u) (fun _ s2=>∃x H',Inv X pins U H' s2/\RelV x u/\J.yld i H x H'/\tn (i+1) s2.heap/\∀b∈fp,H' b=none) E s1) E s
 done:∀(X:Cx),X.prog=P->X.w=w->X.K=K->X.calm=true->∀(i:Nat) (pins:List (Addr×Obj)) (s:Shared) (U:St) (H:Hp) (E:Value->Shared->Prop),Inv X pins U H s->(∀b∈fp,iG X pins H b)->tn i s.heap->J.stop i H ->
  wpAny (model P w) X.A (pyNext (.ref it)) (fun r s1=>r=none/\Inv X pins U H s1) E s
 self:∀(A:Around) (i:Nat) (s:Shared) (Q:Value->Shared->Prop) (E:Value->Shared->Prop),tn i s.heap->Q (.ref it) s->wpAny (model P w) A (pyIter (.ref it)) Q E s
abbrev TI:=St->Hp->(It->Hp->Prop)->Prop
def JS (X:Cx) (pins:List (Addr×Obj)) (U:St) (tg:Expr) (R:It->Hp->Prop) (itv:Value) (s2:Shared):Prop:=
 ∃(it:Addr) (fp:List Addr) (tn:Nat->Heap->Prop) (J:It) (H':Hp),itv=.ref it/\Inv X pins U H' s2/\qG X.prog X.w X.K tg J fp it tn/\tn 0 s2.heap/\(∀b∈fp,iG X pins H' b)/\R J H'
def PI (X:Cx) (tg iter:Expr) (wi:TI):Prop:=
 ∀(pins:List (Addr×Obj)) (s:Shared) (U:St) (H:Hp) (R:It->Hp->Prop),Inv X pins U H s->wi U H R ->
  wpAny (model X.prog X.w) X.A (eval iter X.env) (fun v s1=>wpAny (model X.prog X.w) X.A (pyIter v) (JS X pins U tg R) X.xe s1) X.xe s
theorem oR {E:Value->Shared->Prop} {s:Shared} {n:String} {vs:Array Value} {Q:Unit->Shared->Prop} (ho:s.heap.get? it=some o) (hc:o.cls=.type n) (hd:o.data=.fields vs)
  (hn:["enumerate", "zip", "dict_itemiterator", "dict_reverseitemiterator", "odict_iterator", "itertools.zip_longest", "itertools.pairwise"].contains n=false) (hQ:Q () s):wpAny M A (letOwnedTupleGo tg (.ref it) u) Q E s:=by
 unfold letOwnedTupleGo
 cases tg<;>first
  | exact Ky hQ
  | (cases u<;>first
      | exact Ky hQ
      | (refine Kx (wpAny_load ho ?_)
         rw [hc,hd];show wpAny M A (if (["enumerate", "zip", "dict_itemiterator", "dict_reverseitemiterator", "odict_iterator", "itertools.zip_longest", "itertools.pairwise"].contains n&&vs[0]?==some (rawInt _))=true then _ else _) Q E s
         rw [if_neg (by intro h;rw [hn,Bool.false_and] at h;cases h)]
         exact Ky hQ))
def Bk (K:Fg) (a:Addr):It:=
 ⟨fun i H=>∃xs x,SqL K H a xs/\xs[i]?=some x,fun i H x H'=>H'=H/\∀xs,SqL K H a xs->xs[i]?=some x,fun i H=>∃xs,SqL K H a xs/\xs.length<=i⟩
def Et (K:Fg) (a:Addr):It:=
 ⟨fun i H=>∃xs x,SqT K H a xs/\xs[i]?=some x,fun i H x H'=>H'=H/\∀xs,SqT K H a xs->xs[i]?=some x,fun i H=>∃xs,SqT K H a xs/\xs.length<=i⟩
def vf (lo:Int) (n:Nat):It:=⟨fun i _=>i<n,fun i H x H'=>H'=H/\x=.int (lo+i),fun i _=>n<=i⟩
theorem pg {P:Program} {w:World} (a it:Addr):qG P w K tg (Bk K a) [it] it (fun i h=>h.IsListIter it a i) where
 mem:=by simp
 obj:=fun i h st b hb=>by
  have e:b=it:=by simpa using hb
  subst e;obtain ⟨o,e,c,d⟩:=st;exact ⟨o,e,fun v z=>by rw [d] at z;cases z⟩
 keep:=fun i h h' st k=>st.at fun o e=>k it (by simp) o e
 item:=by
  intro X hP hw hK hc i pins s U H E I hf st hg;subst hP hw hK;obtain ⟨xs,x,hq,hx⟩:=hg;obtain ⟨its,rv,p,hz⟩:=I.list hq;obtain ⟨u,hu,ru⟩:=rv.get hx;obtain ⟨f0,f1,f2,f3,f4,f5⟩:=hf it (by simp)
  refine wpAny_pyNext_list_item st p.isList (x:=u) (by simpa using hu) fun h' st' sb=>?_
  have I1:Inv X pins U H { s with heap:=h' }:=I.turned (t':=s.toks) (fun b o hb e=>(sb.2 b hb).trans e) f0 f1 f3 f4 f5
  obtain ⟨o,e,c,d⟩:=id st'
  exact ⟨u,rfl,oR (s:={ s with heap:=h' }) e c d (by decide) ⟨x,H,I1,ru,⟨rfl,fun ys hy=>by rw [I.list_inj hy hq];exact hx⟩,st',fun b hb=>(hf b hb).1⟩⟩
 done:=by
  intro X hP hw hK hc i pins s U H E I hf st hg;subst hP hw hK;obtain ⟨xs,hq,hx⟩:=hg;obtain ⟨its,rv,p,hz⟩:=I.list hq;obtain ⟨f0,f1,f2,f3,f4,f5⟩:=hf it (by simp)
  have hl:=rv.length
  exact wpAny_pyNext_list_end (I.ok.hd hc) st p.isList (by simp;omega) fun h' eb=>⟨rfl,I.turned (t':=s.toks) (fun b o hb e=>eb b o hb e) f0 f1 f3 f4 f5⟩
 self:=fun _ _ _ _ _ st h=>wpAny_pyIter_listiter st h
theorem mw {P:Program} {w:World} (a it:Addr):qG P w K tg (Et K a) [it] it (fun i h=>h.IsTupleIter it a i) where
 mem:=by simp
 obj:=fun i h st b hb=>by
  have e:b=it:=by simpa using hb
  subst e;obtain ⟨o,e,c,d⟩:=st;exact ⟨o,e,fun v z=>by rw [d] at z;cases z⟩
 keep:=fun i h h' st k=>st.at fun o e=>k it (by simp) o e
 item:=by
  intro X hP hw hK hc i pins s U H E I hf st hg;subst hP hw hK;obtain ⟨xs,x,hq,hx⟩:=hg;obtain ⟨its,rv,p,hz⟩:=I.tuple hq;obtain ⟨u,hu,ru⟩:=rv.get hx;obtain ⟨f0,f1,f2,f3,f4,f5⟩:=hf it (by simp)
  refine wpAny_pyNext_tuple_item st (show s.heap.IsTuple a its.toArray from p) (x:=u) (by simpa using hu) fun h' st' sb=>?_
  have I1:Inv X pins U H { s with heap:=h' }:=I.turned (t':=s.toks) (fun b o hb e=>(sb.2 b hb).trans e) f0 f1 f3 f4 f5
  obtain ⟨o,e,c,d⟩:=id st'
  exact ⟨u,rfl,oR (s:={ s with heap:=h' }) e c d (by decide) ⟨x,H,I1,ru,⟨rfl,fun ys hy=>by rw [I.tuple_inj hy hq];exact hx⟩,st',fun b hb=>(hf b hb).1⟩⟩
 done:=by
  intro X hP hw hK hc i pins s U H E I hf st hg;subst hP hw hK;obtain ⟨xs,hq,hx⟩:=hg;obtain ⟨its,rv,p,hz⟩:=I.tuple hq;obtain ⟨f0,f1,f2,f3,f4,f5⟩:=hf it (by simp)
  have hl:=rv.length
  exact wpAny_pyNext_tuple_end (I.ok.hd hc) st (show s.heap.IsTuple a its.toArray from p) (by simp;omega) fun h' eb=>⟨rfl,I.turned (t':=s.toks) (fun b o hb e=>eb b o hb e) f0 f1 f3 f4 f5⟩
 self:=fun _ _ _ _ _ st h=>wpAny_pyIter_tupleiter st h
theorem mx {P:Program} {w:World} (it:Addr) (lo:Int) (n:Nat):qG P w K tg (vf lo n) [it] it (fun i h=>IsRangeIter h it (lo+(i:Nat)*1) ((n:Int)-(i:Nat)) 1) where
 mem:=by simp
 obj:=fun i h st b hb=>by
  have e:b=it:=by simpa using hb
  subst e;exact ⟨_,st,fun v z=>by
   have z':Data.fields _=Data.cell v:=z
   cases z'⟩
 keep:=fun i h h' st k=>k it (by simp) _ st
 item:=by
  intro X hP hw hK hc i pins s U H E I hf st hg;subst hP hw hK;obtain ⟨f0,f1,f2,f3,f4,f5⟩:=hf it (by simp)
  have W:=Walks.range (prog:=X.prog) (w:=X.w) (I.ok.hd hc) it lo 1 n
  refine W.item i s _ _ hg st fun v h' tk hv st' kk=>?_
  obtain ⟨t,rfl⟩:=hv;have I1:Inv X pins U H { s with heap:=h',toks:=tk }:=I.turned (fun b o hb e=>kk b o (by simpa using hb) e) f0 f1 f3 f4 f5
  refine ⟨_,rfl,oR (s:={ s with heap:=h',toks:=tk }) (n := "range_iterator") st' rfl rfl (by decide) ⟨.int (lo+i),H,I1,⟨t,?_⟩,⟨rfl,rfl⟩,st',fun b hb=>(hf b hb).1⟩⟩
  rw [Int.mul_one]
 done:=by
  intro X hP hw hK hc i pins s U H E I hf st hg;subst hP hw hK;obtain ⟨f0,f1,f2,f3,f4,f5⟩:=hf it (by simp)
  exact wpAny_pyNext_range_end (I.ok.hd hc) st (by have:n<=i:=hg;omega) fun h' eb=>⟨rfl,I.turned (t':=s.toks) (fun b o hb e=>eb b o hb e) f0 f1 f3 f4 f5⟩
 self:=fun _ _ _ _ _ st h=>wpAny_pyIter_rangeiter st h
section
variable {X:Cx} {tg:Expr}
def bf (K:Fg) (tl:TE):TI:=fun U H R=>tl U H fun x H1=>∃a,x=.ref a/\(∃xs,SqL K H1 a xs)/\R (Bk K a) H1
def DN (K:Fg) (tl:TE):TI:=fun U H R=>tl U H fun x H1=>∃a,x=.ref a/\(∃xs,SqT K H1 a xs)/\R (Et K a) H1
theorem nq {tl:TE} (hl:PE X l tl):PI X tg l (bf X.K tl):=by
 intro pins s U H R I h;refine bg (hl pins s U H _ I h) fun v s1 ⟨x,H1,I1,r1,q1⟩=>?_
 obtain ⟨a,e,⟨xs,hq⟩,q⟩:=q1;subst e
 cases r1;obtain ⟨its,rv,p,hz⟩:=I1.list hq;refine wpAny_pyIter_list p.isList ?_
 refine ⟨s1.heap.objs.size,[s1.heap.objs.size],_,_,H1,rfl,I1.kept (t':=s1.toks) fun b o e=>Kz _ e,pg a _,⟨_,Heap.get?_push_size _ rfl,rfl,rfl⟩,fun b hb=>?_,q⟩
 have e:b=s1.heap.objs.size:=by simpa using hb
 subst e;exact I1.fpOk (KA _) (I1.hok.fresh (KA _))
theorem zS {tl:TE} (hl:PE X l tl):PI X tg l (DN X.K tl):=by
 intro pins s U H R I h;refine bg (hl pins s U H _ I h) fun v s1 ⟨x,H1,I1,r1,q1⟩=>?_
 obtain ⟨a,e,⟨xs,hq⟩,q⟩:=q1;subst e
 cases r1;obtain ⟨its,rv,p,hz⟩:=I1.tuple hq;refine wpAny_pyIter_tuple (show s1.heap.IsTuple a its.toArray from p) ?_
 refine ⟨s1.heap.objs.size,[s1.heap.objs.size],_,_,H1,rfl,I1.kept (t':=s1.toks) fun b o e=>Kz _ e,mw a _,⟨_,Heap.get?_push_size _ rfl,rfl,rfl⟩,fun b hb=>?_,q⟩
 have e:b=s1.heap.objs.size:=by simpa using hb
 subst e;exact I1.fpOk (KA _) (I1.hok.fresh (KA _))
theorem kA {U:St} {H:Hp} {s:Shared} {R:It->Hp->Prop} {E:Value->Shared->Prop} {hi:Int} {t u v:Tok} {tk:Nat} (I:Inv X pins U H s) (h1:-(2 ^ 62)<=lo) (h2:lo<2 ^ 62) (h3:-(2 ^ 62)<=hi) (h4:hi<2 ^ 62)
  (q:R (vf lo (hi-lo).toNat) H):wpAny (model X.prog X.w) X.A (pyIter (.ref s.heap.objs.size)) (JS X pins U tg R) E { s with heap:=s.heap.push { cls:=.type "range",data:=.fields #[.int lo t,.int hi u,.int 1 v] },toks:=tk }:=by
 refine wpAny_pyIter_range (IsRange.new ..) (small_one h1 h2 h3 h4) ?_
 have I1:Inv X pins U H { s with heap:=s.heap.push { cls:=.type "range",data:=.fields #[.int lo t,.int hi u,.int 1 v] },toks:=tk }:=I.kept fun b o e=>Kz _ e
 refine ⟨(s.heap.push { cls:=.type "range",data:=.fields #[.int lo t,.int hi u,.int 1 v] }).objs.size,[(s.heap.push { cls:=.type "range",data:=.fields #[.int lo t,.int hi u,.int 1 v] }).objs.size],_,_,H,rfl,
  I1.kept (t':=tk) fun b o e=>Kz _ e,mx _ lo (hi-lo).toNat,?_,fun b hb=>?_,q⟩
 ·have e1:lo+((0:Nat):Int)*1=lo:=by simp
  have e2:(((hi-lo).toNat:Nat):Int)-((0:Nat):Int)=Builtin.Range.rangeSize lo hi 1:=by rw [rangeSize_one];split<;>omega
  show IsRangeIter _ _ (lo+((0:Nat):Int)*1) ((((hi-lo).toNat:Nat):Int)-((0:Nat):Int)) 1
  rw [e1,e2];exact Heap.get?_push_size _ rfl
 ·have e:b=(s.heap.push { cls:=.type "range",data:=.fields #[.int lo t,.int hi u,.int 1 v] }).objs.size:=by simpa using hb
  subst e;exact I1.fpOk (KA _) (I1.hok.fresh (KA _))
def gZ (ta:TA):TI:=fun U H R=>ta U H fun vs H1=>∃j:Int,vs=[.int j]/\-(2 ^ 62)<=j/\j<2 ^ 62/\R (vf 0 j.toNat) H1
def yw (ta:TA):TI:=fun U H R=>ta U H fun vs H1=>∃i j:Int,vs=[.int i,.int j]/\(-(2 ^ 62)<=i/\i<2 ^ 62/\-(2 ^ 62)<=j/\j<2 ^ 62)/\R (vf i (j-i).toNat) H1
theorem Hm {a:Expr} {ta:TA} {p:Pos} (hg:Gl X "range") (hm:X.mg "range"=none) (ha:PA X [a] ta) (hs:starEach [a] X.env=[(false,eval a X.env)]:=by rfl):PI X tg (.Call (.Name "range" p) [a] [] pos) (gZ ta):=by
 intro pins s U H R I h;refine Call_ (yK I hg hm boot_range (PyProof.Rows.callWith_type1 (bg (ha pos pins s U H _ I h) fun us s1 ⟨vs,H1,I1,r1,q1⟩=>?_) hs rfl))
 obtain ⟨j,e,q1,q2,q⟩:=q1;subst e
 cases r1 with
 | cons r rr=>
  cases rr;obtain ⟨t,rfl⟩:=r;exact call_range_1 (kA I1 (by omega) (by omega) q1 q2 (by simpa using q))
theorem pQ {a b:Expr} {ta:TA} {p:Pos} (hg:Gl X "range") (hm:X.mg "range"=none) (ha:PA X [a,b] ta) (hs:starEach [a,b] X.env=[(false,eval a X.env),(false,eval b X.env)]:=by rfl) (hs2:starEach [b] X.env=[(false,eval b X.env)]:=by rfl) :
  PI X tg (.Call (.Name "range" p) [a,b] [] pos) (yw ta):=by
 intro pins s U H R I h;refine Call_ (yK I hg hm boot_range (PyProof.Rows.callWith_type1 (bg (ha pos pins s U H _ I h) fun us s1 ⟨vs,H1,I1,r1,q1⟩=>?_) (by rw [hs,hs2]) (by rw [hs2];rfl)))
 obtain ⟨i,j,e,⟨q1,q2,q3,q4⟩,q⟩:=q1;subst e
 cases r1 with
 | cons r rr=>
  cases rr with
  | cons r' rr=>
   cases rr;obtain ⟨t,rfl⟩:=r;obtain ⟨t',rfl⟩:=r'
   exact call_range_2 (kA I1 q1 q2 q3 q4 q)
def cT (wi:TI) (g:TG) (tb:TS):TS:=fun D U H=>wi U H fun J H1=>∃W:Nat->Nat->St->Hp->Prop,(∃m,W 0 m U H1)/\∀i m U H,W i m U H ->
 (J.stop i H/\D.nx U H)\/(J.go i H/\∃N:St->Hp->Prop,(∀U' H',N U' H'->∃m',m'<m/\W (i+1) m' U' H')/\∀x H',J.yld i H x H'->g x U H' fun U2 H2=>tb { D with nx:=N,ct:=N,bk:=D.nx } U2 H2)
def BZ (fp:List Addr) (h:Heap):List (Addr×Obj):=fp.filterMap fun b=>(h.get? b).map fun o=>(b,o)
theorem Fu {h:Heap} (hb:b∈fp) (e:h.get? b=some o):(b,o)∈BZ fp h:=List.mem_filterMap.mpr ⟨b,hb,by rw [e];rfl⟩
theorem pV {h:Heap} {p:Addr×Obj} (hp:p∈BZ fp h):p.1∈fp/\h.get? p.1=some p.2:=by
 obtain ⟨b,hb,e⟩:=List.mem_filterMap.mp hp
 cases q:h.get? b with
 | none=>rw [q] at e;cases e
 | some o=>
  rw [q] at e;have e':(b,o)=p:=Option.some.inj e
  subst e'
  exact ⟨hb,q⟩
theorem Inv.pinned {U:St} {H:Hp} {s:Shared} (I:Inv X pins U H s) (hf:∀b∈fp,iG X pins H b) (ho:∀b∈fp,∃o,s.heap.get? b=some o/\∀v,o.data≠.cell v):Inv X (pins++BZ fp s.heap) U H s:=
 I.pins_of fun p hp=>(Kq hp).elim (fun z=>I.pin p (Ko _ z)) fun z=>by
  obtain ⟨hb,e⟩:=pV z;obtain ⟨f0,f1,f2,_⟩:=hf p.1 hb;obtain ⟨o,e',d⟩:=ho p.1 hb;rw [e] at e';cases e'
  exact ⟨e,f0,f1,f2,d⟩
theorem Inv.unpinned {pl:List (Addr×Obj)} {U:St} {H:Hp} {s:Shared} (I:Inv X (pins++pl) U H s):Inv X pins U H s:=I.pins_of fun p hp=>I.pin p (Ko _ (Kp _ hp))
theorem nu {iter:Expr} {body:List Stmt} {wi:TI} {g:TG} {tb:TS} (hp:PassesOwn (model X.prog X.w) X.A X.env X.xe) (hc:X.calm=true) (hi:PI X tg iter wi) (hg:PG X tg g) (hb:PSs X body tb)
  (hs:∀x,foldedSetIterable iter X.env x=pure x:=by intro _;rfl):PS X (.For tg iter body [] pos) (cT wi g tb):=by
 intro pins s U H D I h;refine wpAny_For (bg (hi pins s U H _ I h) fun v s1 h1=>bg h1 fun itv s2 h2=>?_) hs
 obtain ⟨it,fp,tn,J,H2,e,I2,T,st2,f2,W,⟨m0,w0⟩,turn⟩:=h2;subst e;have stat:∀{H':Hp},(∀b∈fp,H' b=none)->∀b∈fp,iG X pins H' b:=fun hn b hb=>⟨hn b hb,(f2 b hb).2⟩
 refine codeAny_forLoop_any (fun n s'=>∃i U' H',Inv X pins U' H' s'/\tn i s'.heap/\(∀b∈fp,H' b=none)/\W i n U' H') ?_ m0 ⟨0,U,H2,I2,st2,fun b hb=>(f2 b hb).1,w0⟩
 rintro n s3 ⟨i,U3,H3,I3,st3,fr3,w3⟩
 rcases turn i n U3 H3 w3 with ⟨stop,qn⟩ | ⟨go,N,hN,step⟩
 ·refine wpAny_passesOwn hp (bg (T.done X rfl rfl rfl hc i pins s3 U3 H3 X.xe I3 (stat fr3) st3 stop) fun r s4 ⟨hr,I4⟩=>?_)
  subst hr;exact wpAny_execs_nil ⟨U3,H3,I4,qn⟩
 ·refine wpAny_passesOwn hp (bg (T.item X rfl rfl rfl hc i pins s3 U3 H3 X.xe I3 (stat fr3) st3 go) fun r s4 ⟨u,hr,h4⟩=>?_)
  subst hr;refine wpAny_passesOwn hp (bg h4 fun _ s5 ⟨x,H5,I5,r5,y5,st5,fr5⟩=>?_)
  have I5':=I5.pinned (stat fr5) (T.obj _ _ st5)
  refine wpAny_passesOwn hp (bg (hg _ s5 U3 H5 x u _ I5' r5 (step x H5 y5)) fun _ s6 ⟨U6,H6,I6,q6⟩=>?_)
  refine wpAny_passesOwn hp (bg (hb _ s6 U6 H6 _ I6 q6) fun f s7 q7=>?_)
  have again:∀{U7:St} {H7:Hp},Inv X (pins++BZ fp s5.heap) U7 H7 s7->N U7 H7->∃m,m<n/\∃i U' H',Inv X pins U' H' s7/\tn i s7.heap/\(∀b∈fp,H' b=none)/\W i m U' H':=fun {U7 H7} I7 n7=>by
   obtain ⟨m',hm,w7⟩:=hN U7 H7 n7;refine ⟨m',hm,i+1,U7,H7,I7.unpinned,T.keep _ _ _ st5 fun b hb o e=>(I7.pin (b,o) (Ko _ (Ko _ (Fu hb e)))).1,fun b hb=>?_,w7⟩
   obtain ⟨o,e,d⟩:=T.obj _ _ st5 b hb;exact (I7.pin (b,o) (Ko _ (Ko _ (Fu hb e)))).2.1
  cases f with
  | next=>obtain ⟨U7,H7,I7,n7⟩:=q7;exact again I7 n7
  | cont=>obtain ⟨U7,H7,I7,n7⟩:=q7;exact again I7 n7
  | brk=>obtain ⟨U7,H7,I7,q7⟩:=q7;exact ⟨U7,H7,I7.unpinned,q7⟩
  | ret v=>obtain ⟨x7,U7,H7,I7,r7,q7⟩:=q7;exact ⟨x7,U7,H7,I7.unpinned,r7,q7⟩
end
theorem yT {xs:List V} {g:TG} {tb:TS} {D:cJ} {U:St} {H:Hp} (Pv:Nat->St->Hp->Prop) (h0:Pv 0 U H) (hl:∀i U H,i<=xs.length->Pv i U H->SqL K H a xs)
  (hs:∀i x U H,xs[i]?=some x->Pv i U H->g x U H fun U2 H2=>tb { D with nx:=Pv (i+1),ct:=Pv (i+1),bk:=D.nx } U2 H2) (hd:∀U H,Pv xs.length U H->D.nx U H) :
  ∃W:Nat->Nat->St->Hp->Prop,(∃m,W 0 m U H)/\∀i m U H,W i m U H ->
   ((Bk K a).stop i H/\D.nx U H)\/((Bk K a).go i H/\∃N:St->Hp->Prop,(∀U' H',N U' H'->∃m',m'<m/\W (i+1) m' U' H')/\∀x H',(Bk K a).yld i H x H'->g x U H' fun U2 H2=>tb { D with nx:=N,ct:=N,bk:=D.nx } U2 H2):=by
 refine ⟨fun i m U H=>m=xs.length-i/\i<=xs.length/\Pv i U H,⟨xs.length,by simp,Nat.zero_le _,h0⟩,?_⟩
 rintro i m U H ⟨rfl,hi,p⟩
 have q:=hl i U H hi p
 by_cases hlt:i<xs.length
 ·refine .inr ⟨⟨xs,xs[i],q,by simp [hlt]⟩,Pv (i+1),fun U' H' p'=>⟨xs.length-(i+1),by omega,rfl,hlt,p'⟩,fun x H' y=>?_⟩
  obtain ⟨e,y⟩:=y;subst e;exact hs i x U _ (y xs q) p
 ·have e:i=xs.length:=by omega
  subst e;exact .inl ⟨⟨xs,q,KA _⟩,hd U H p⟩
theorem w6 {xs:List V} {g:TG} {tb:TS} {D:cJ} {U:St} {H:Hp} (Pv:Nat->St->Hp->Prop) (h0:Pv 0 U H) (hl:∀i U H,i<=xs.length->Pv i U H->SqT K H a xs)
  (hs:∀i x U H,xs[i]?=some x->Pv i U H->g x U H fun U2 H2=>tb { D with nx:=Pv (i+1),ct:=Pv (i+1),bk:=D.nx } U2 H2) (hd:∀U H,Pv xs.length U H->D.nx U H) :
  ∃W:Nat->Nat->St->Hp->Prop,(∃m,W 0 m U H)/\∀i m U H,W i m U H ->
   ((Et K a).stop i H/\D.nx U H)\/((Et K a).go i H/\∃N:St->Hp->Prop,(∀U' H',N U' H'->∃m',m'<m/\W (i+1) m' U' H')/\∀x H',(Et K a).yld i H x H'->g x U H' fun U2 H2=>tb { D with nx:=N,ct:=N,bk:=D.nx } U2 H2):=by
 refine ⟨fun i m U H=>m=xs.length-i/\i<=xs.length/\Pv i U H,⟨xs.length,by simp,Nat.zero_le _,h0⟩,?_⟩
 rintro i m U H ⟨rfl,hi,p⟩
 have q:=hl i U H hi p
 by_cases hlt:i<xs.length
 ·refine .inr ⟨⟨xs,xs[i],q,by simp [hlt]⟩,Pv (i+1),fun U' H' p'=>⟨xs.length-(i+1),by omega,rfl,hlt,p'⟩,fun x H' y=>?_⟩
  obtain ⟨e,y⟩:=y;subst e;exact hs i x U _ (y xs q) p
 ·have e:i=xs.length:=by omega
  subst e;exact .inl ⟨⟨xs,q,KA _⟩,hd U H p⟩
theorem i7 {g:TG} {tb:TS} {D:cJ} {U:St} {H:Hp} (Pv:Nat->St->Hp->Prop) (h0:Pv 0 U H)
  (hs:∀i U H,i<n->Pv i U H->g (.int (lo+i)) U H fun U2 H2=>tb { D with nx:=Pv (i+1),ct:=Pv (i+1),bk:=D.nx } U2 H2) (hd:∀U H,Pv n U H->D.nx U H) :
  ∃W:Nat->Nat->St->Hp->Prop,(∃m,W 0 m U H)/\∀i m U H,W i m U H ->
   ((vf lo n).stop i H/\D.nx U H)\/((vf lo n).go i H/\∃N:St->Hp->Prop,(∀U' H',N U' H'->∃m',m'<m/\W (i+1) m' U' H')/\∀x H',(vf lo n).yld i H x H'->g x U H' fun U2 H2=>tb { D with nx:=N,ct:=N,bk:=D.nx } U2 H2):=by
 refine ⟨fun i m U H=>m=n-i/\i<=n/\Pv i U H,⟨n,by simp,Nat.zero_le _,h0⟩,?_⟩
 rintro i m U H ⟨rfl,hi,p⟩
 by_cases hlt:i<n
 ·refine .inr ⟨hlt,Pv (i+1),fun U' H' p'=>⟨n-(i+1),by omega,rfl,hlt,p'⟩,fun x H' y=>?_⟩
  obtain ⟨e,y⟩:=y;subst e y;exact hs i U _ hlt p
 ·have e:i=n:=by omega
  subst e;exact .inl ⟨KA _,hd U H p⟩
abbrev R2:=V->V->Hp->VK->Prop
def OpR (X:Cx) (f:Value->Value->Sem Value) (r:R2):Prop:=
 ∀(pins:List (Addr×Obj)) (s:Shared) (U:St) (H:Hp) (x y:V) (v u:Value) (Q:VK),Inv X pins U H s->RelV x v->RelV y u->r x y H Q ->
  wpAny (model X.prog X.w) X.A (f v u) (EP X pins U Q) X.xe s
def CallR (X:Cx) (f:Value) (r:List V->Hp->VK->Prop):Prop:=
 ∀(pins:List (Addr×Obj)) (s:Shared) (U:St) (H:Hp) (xs:List V) (us:List Value) (Q:VK),Inv X pins U H s->Vals xs us->r xs H Q ->
  wpAny (model X.prog X.w) X.A (call f us) (EP X pins U Q) X.xe s
def I0 (X:Cx) (r:V->Hp->(Bool->Hp->Prop)->Prop):Prop:=
 ∀(pins:List (Addr×Obj)) (s:Shared) (U:St) (H:Hp) (x:V) (v:Value) (Q:Bool->Hp->Prop),Inv X pins U H s->RelV x v->r x H Q ->
  wpAny (model X.prog X.w) X.A (truthy v) (TP X pins U Q) X.xe s
def rz (r:R2) (ta tb:TE):TE:=fun U H Q=>ta U H fun x H1=>tb U H1 fun y H2=>r x y H2 Q
def rI (C:Int->Int->Prop) (g:Int->Int->V):R2:=fun x y H Q=>∃i j,x=.int i/\y=.int j/\C i j/\Q (g i j) H
def nX (g:Int->Int->V):R2:=fun x y H Q=>∃i j,x=.int i/\y=.int j/\Q (g i j) H
section
variable {X:Cx} {a b c:Expr} {ta tb tc:TE} {pos:Pos}
theorem Bb (ha:PE X a ta) (hb:PE X b tb) {s:Shared} {U:St} {H:Hp} {R:V->V->Hp->Prop} (I:Inv X pins U H s)
  (h:ta U H fun x H1=>tb U H1 fun y H2=>R x y H2) {Q:Value->Shared->Prop} {f:Value->Value->Sem Value}
  (hf:∀v u s2 x y H2,Inv X pins U H2 s2->RelV x v->RelV y u->R x y H2->wpAny (model X.prog X.w) X.A (f v u) Q X.xe s2) :
  wpAny (model X.prog X.w) X.A (eval a X.env) (fun v s₁=>wpAny (model X.prog X.w) X.A (eval b X.env) (fun u s₂=>wpAny (model X.prog X.w) X.A (f v u) Q X.xe s₂) X.xe s₁) X.xe s:=by
 refine bg (ha pins s U H _ I h) fun v s1 ⟨x,H1,I1,r1,q1⟩=>?_
 refine bg (hb pins s1 U H1 _ I1 q1) fun u s2 ⟨y,H2,I2,r2,q2⟩=>?_
 exact hf v u s2 x y H2 I2 r1 r2 q2
theorem gO {op:Operator} {r:R2} (ho:OpR X (binaryOp op) r) (ha:PE X a ta) (hb:PE X b tb):PE X (.BinOp a op b pos) (rz r ta tb):=by
 intro pins s U H Q I h;exact wpAny_BinOp (Bb ha hb I h fun v u s2 x y H2 I2 rx ry q=>ho pins s2 U H2 x y v u Q I2 rx ry q)
theorem FZ {f:Value->Value->Sem Value} {C:Int->Int->Prop}
  (rule:∀(i j:Int) (t u:Tok) (s:Shared) (Q:Value->Shared->Prop) (E:Value->Shared->Prop),C i j->Q (.int (g i j) s.toks) { s with toks:=s.toks+1 }->wpAny (model X.prog X.w) X.A (f (.int i t) (.int j u)) Q E s) :
  OpR X f (rI C fun i j=>.int (g i j)):=by
 intro pins s U H x y v u Q I rx ry h;obtain ⟨i,j,rfl,rfl,hc,q⟩:=h;obtain ⟨t,rfl⟩:=rx;obtain ⟨t',rfl⟩:=ry;exact rule i j t t' s _ _ hc ⟨.int (g i j),H,I.tok _,⟨_,rfl⟩,q⟩
theorem Dm {f:Value->Value->Sem Value}
  (rule:∀(i j:Int) (t u:Tok) (s:Shared) (Q:Value->Shared->Prop) (E:Value->Shared->Prop),Q (.int (g i j) s.toks) { s with toks:=s.toks+1 }->wpAny (model X.prog X.w) X.A (f (.int i t) (.int j u)) Q E s) :
  OpR X f (nX fun i j=>.int (g i j)):=by
 intro pins s U H x y v u Q I rx ry h;obtain ⟨i,j,rfl,rfl,q⟩:=h;obtain ⟨t,rfl⟩:=rx;obtain ⟨t',rfl⟩:=ry;exact rule i j t t' s _ _ ⟨.int (g i j),H,I.tok _,⟨_,rfl⟩,q⟩
theorem wu {f:Value->Value->Sem Value} {g:Int->Int->Bool}
  (rule:∀(i j:Int) (t u:Tok) (s:Shared) (Q:Value->Shared->Prop) (E:Value->Shared->Prop),Q (.bool (g i j)) s->wpAny (model X.prog X.w) X.A (f (.int i t) (.int j u)) Q E s) :
  OpR X f (nX fun i j=>.bl (g i j)):=by
 intro pins s U H x y v u Q I rx ry h;obtain ⟨i,j,rfl,rfl,q⟩:=h;obtain ⟨t,rfl⟩:=rx;obtain ⟨t',rfl⟩:=ry;exact rule i j t t' s _ _ ⟨.bl (g i j),H,I,rfl,q⟩
def Jl (i j:Int):Prop:=0<j/\j<1073741824
def Jk (i j:Int):Prop:=0<=j/\j<=1000000/\i.natAbs<2 ^ 64
def CMul (i j:Int):Prop:=(-(2 ^ 64)<i/\i<2 ^ 64)\/(-(2 ^ 64)<j/\j<2 ^ 64)
theorem CMul.ok {i j:Int} (h:CMul i j):IntMulOk i j:=by
 rcases h with ⟨h1,h2⟩ | ⟨h1,h2⟩
 ·exact .of_left (intBits_le_64 h1 h2)
 ·exact .of_right (intBits_le_64 h1 h2)
theorem Ad:OpR X (binaryOp .Add) (nX fun i j=>.int (i+j)):=Dm fun _ _ _ _ _ _ _ q=>add_int q
theorem zV:OpR X (binaryOp .Sub) (nX fun i j=>.int (i-j)):=Dm fun _ _ _ _ _ _ _ q=>sub_int q
theorem zY:OpR X (binaryOp .Mult) (rI CMul fun i j=>.int (i*j)):=FZ fun _ _ _ _ _ _ _ hc q=>mul_int q hc.ok
theorem wq:OpR X (binaryOp .FloorDiv) (rI Jl fun i j=>.int (i / j)):=FZ fun i j _ _ _ _ _ hc q=>by
 have h1:(0:Int)<j:=hc.1
 have h2:j<1073741824:=hc.2
 exact floordiv_int (by omega) (by rw [Int.fdiv_eq_ediv_of_nonneg i (by omega)];exact q) (.inl (PyProof.noPylong_small (by omega)))
theorem zZ:OpR X (binaryOp .Mod) (rI (fun _ j=>0<j) fun i j=>.int (i % j)):=FZ fun i j _ _ _ _ _ hc q=>by
 have h1:(0:Int)<j:=hc
 exact mod_int' (by omega) (by rw [Int.fmod_eq_emod_of_nonneg i (by omega)];exact q)
theorem zW:OpR X (binaryOp .Pow) (rI Jk fun i j=>.int (i ^ j.toNat)):=FZ fun _ _ _ _ _ _ _ hc q=>pow_int_small hc.1 hc.2.1 hc.2.2 q
end
section
variable {X:Cx} {a b c:Expr} {ta tb tc:TE} {pos:Pos}
theorem BU {U:St} {H:Hp} {s:Shared} {Q:VK} {k k':Bool} (I:Inv X pins U H s) (q:Q (.bl k) H) (e:k=k'):EP X pins U Q (.bool k') s:=by
 subst e;exact ⟨.bl k,H,I,rfl,q⟩
theorem op_lt:OpR X (compareOp .Lt) (nX fun i j=>.bl (decide (i<j))):=wu fun _ _ _ _ _ _ _ q=>lt_int q
theorem Dk:OpR X (compareOp .LtE) (nX fun i j=>.bl (decide (i<=j))):=wu fun _ _ _ _ _ _ _ q=>le_int q
theorem Dl:OpR X (compareOp .Gt) (nX fun i j=>.bl (decide (j<i))):=wu fun _ _ _ _ _ _ _ q=>gt_int q
theorem op_ge:OpR X (compareOp .GtE) (nX fun i j=>.bl (decide (j<=i))):=wu fun _ _ _ _ _ _ _ q=>ge_int q
theorem pT:OpR X (compareOp .Lt) (fun x y H Q=>∃i j,x=.str i/\y=.str j/\Q (.bl (decide (i.cps.toList<j.cps.toList))) H):=by
 intro pins s U H x y v u Q I rx ry h;obtain ⟨i,j,rfl,rfl,q⟩:=h;obtain ⟨t,rfl⟩:=rx;obtain ⟨t',rfl⟩:=ry;exact lt_str (BU I q rfl)
theorem Aa:OpR X (compareOp .Is) (fun x y H Q=>y=.non/\Q (.bl (decide (x=.non))) H):=by
 intro pins s U H x y v u Q I rx ry h;obtain ⟨rfl,q⟩:=h
 cases ry;refine is_none_gen (BU I q ?_)
 cases x<;>first
  | (cases rx;rfl)
  | (obtain ⟨t,rfl⟩:=rx;rfl)
theorem oq:OpR X (compareOp .IsNot) (fun x y H Q=>y=.non/\Q (.bl (!decide (x=.non))) H):=by
 intro pins s U H x y v u Q I rx ry h;obtain ⟨rfl,q⟩:=h
 cases ry;refine isnot_none_gen (BU I q ?_)
 cases x<;>first
  | (cases rx;rfl)
  | (obtain ⟨t,rfl⟩:=rx;rfl)
theorem OpR.or {f:Value->Value->Sem Value} {r r':R2} (h:OpR X f r) (h':OpR X f r'):OpR X f (fun x y H Q=>r x y H Q\/r' x y H Q):=by
 intro pins s U H x y v u Q I rx ry q;rcases q with q | q
 ·exact h pins s U H x y v u Q I rx ry q
 ·exact h' pins s U H x y v u Q I rx ry q
theorem wj {op:CmpOp} {r:R2} (ho:OpR X (compareOp op) r) (ha:PE X a ta) (hb:PE X b tb) (hm:behindInMarks op b=false):PE X (.Compare a [op] [b] pos) (rz r ta tb):=by
 intro pins s U H Q I h;exact wpAny_Compare1 (Bb ha hb I h fun v u s2 x y H2 I2 rx ry q=>ho pins s2 U H2 x y v u Q I2 rx ry q) hm
def nG (t:TE):TT:=fun U H Q=>t U H fun x H'=>∃k,x=.bl k/\Q k H'
theorem nZ {op:CmpOp} {r:R2} (ho:OpR X (compareOp op) r) (ha:PE X a ta) (hb:PE X b tb) (hm:behindInMarks op b=false):PT X (.Compare a [op] [b] pos) (nG (rz r ta tb)):=by
 intro pins s U H Q I h;refine wpAny_isTrue_Compare1 (bg (ha pins s U H _ I h) fun v s1 ⟨x,H1,I1,r1,q1⟩=>bg (hb pins s1 U H1 _ I1 q1) fun u s2 ⟨y,H2,I2,r2,q2⟩=>
  bg (ho pins s2 U H2 x y v u _ I2 r1 r2 q2) fun c s3 ⟨z,H3,I3,r3,k,e,q3⟩=>?_) hm
 subst e
 cases r3;exact wpAny_truthy_bool ⟨H3,I3,q3⟩
def GX (r r':R2) (ta tb tc:TE):TE:=fun U H Q=>ta U H fun x H1=>tb U H1 fun y H2=>r x y H2 fun z H3=>∃k,z=.bl k /\
 (if k=true then tc U H3 fun w' H4=>r' y w' H4 Q else Q (.bl false) H3)
theorem sV {op:CmpOp} {r r':R2} (ho:OpR X (compareOp op) r) (ho':OpR X (compareOp op') r') (ha:PE X a ta) (hb:PE X b tb) (hc:PE X c tc)
  (hm:lastMarks [op,op'] [b,c]=false:=by with_unfolding_all rfl):PE X (.Compare a [op,op'] [b,c] pos) (GX r r' ta tb tc):=by
 intro pins s U H Q I h;refine Compare_chain (bg (ha pins s U H _ I h) fun v s1 ⟨x,H1,I1,r1,q1⟩=>chain_link (bg (hb pins s1 U H1 _ I1 q1) fun u s2 ⟨y,H2,I2,r2,q2⟩=>
  bg (ho pins s2 U H2 x y v u _ I2 r1 r2 q2) fun d s3 ⟨z,H3,I3,r3,k,e,q3⟩=>?_)) hm
 subst e
 cases r3;refine wpAny_truthy_bool ?_
 cases k with
 | false=>exact ite_ff ⟨.bl false,H3,I3,rfl,q3⟩
 | true=>exact ite_tt (chain_last (bg (hc pins s3 U H3 _ I3 q3) fun w' s4 ⟨z',H4,I4,r4,q4⟩=>ho' pins s4 U H4 y z' u w' Q I4 r2 r4 q4))
theorem sM {op:CmpOp} {r r':R2} (ho:OpR X (compareOp op) r) (ho':OpR X (compareOp op') r') (ha:PE X a ta) (hb:PE X b tb) (hc:PE X c tc)
  (hm:lastMarks [op,op'] [b,c]=false:=by with_unfolding_all rfl):PT X (.Compare a [op,op'] [b,c] pos) (nG (GX r r' ta tb tc)):=by
 intro pins s U H Q I h;refine isTrue_chain (bg (ha pins s U H _ I h) fun v s1 ⟨x,H1,I1,r1,q1⟩=>test_link (bg (hb pins s1 U H1 _ I1 q1) fun u s2 ⟨y,H2,I2,r2,q2⟩=>
  bg (ho pins s2 U H2 x y v u _ I2 r1 r2 q2) fun d s3 ⟨z,H3,I3,r3,k,e,q3⟩=>?_)) hm
 subst e
 cases r3;refine wpAny_truthy_bool ?_
 cases k with
 | false=>
  obtain ⟨k',e',q'⟩:=q3
  cases e'
  exact ite_ff ⟨H3,I3,q'⟩
 | true=>
  refine ite_tt (test_last (bg (hc pins s3 U H3 _ I3 q3) fun w' s4 ⟨z',H4,I4,r4,q4⟩=>bg (ho' pins s4 U H4 y z' u w' _ I4 r2 r4 q4) fun d' s5 ⟨z2,H5,I5,r5,k2,e2,q5⟩=>?_))
  subst e2
  cases r5;exact wpAny_truthy_bool ⟨H5,I5,q5⟩
def uM (K:Fg) (x:V) (H:Hp) (k:Bool):Prop:=
 match x with
 | .non=>k=false
 | .bl b=>k=b
 | .int i=>k=(i != 0)
 | .str y=>y.length<=sizeLine/\k=((y.length:Int) != 0)
 | .byt y=>y.size<=sizeLine/\k=((y.size:Int) != 0)
 | .ref p=>(∃xs,SqL K H p xs/\k=!xs.isEmpty)\/(∃xs,SqT K H p xs/\k=!xs.isEmpty)\/∃kvs,H p=some (.dK kvs)/\k=!kvs.isEmpty
 | _=>False
theorem mN {κ:Type} {kvs:List (κ×V)} {vs:List (κ×Value)} (r:KV kvs vs):(!vs.isEmpty)=!kvs.isEmpty:=by
 cases r<;>rfl
theorem gY {xs:List V} (r:Vals xs its):(!its.toArray.isEmpty)=!xs.isEmpty:=by
 cases r<;>simp
theorem Bv:(sizeLine:Nat)<2 ^ 63:=by rw [sizeLine_eq];decide
theorem za:I0 X (fun x H Q=>∃k,uM X.K x H k/\Q k H):=by
 intro pins s U H x v Q I rx h;obtain ⟨k,e,q⟩:=h;have hl:=Bv
 have hs:sizeLine=16777216:=sizeLine_eq
 cases x with
 | non=>
  cases rx;have e':k=false:=e
  subst e'
  exact truthy_none ⟨H,I,q⟩
 | bl b=>
  cases rx;have e':k=b:=e
  subst e'
  exact wpAny_truthy_bool ⟨H,I,q⟩
 | int i=>
  obtain ⟨t,rfl⟩:=rx;have e':k=(i != 0):=e
  subst e'
  exact PySem.P.truthy_int ⟨H,I,q⟩
 | str y=>
  obtain ⟨t,rfl⟩:=rx;obtain ⟨hy,e'⟩:y.length<=sizeLine/\k=((y.length:Int) != 0):=e
  subst e'
  exact PySem.P.truthy_str (by omega) ⟨H,I.tok _,q⟩
 | byt y=>
  obtain ⟨t,rfl⟩:=rx;obtain ⟨hy,e'⟩:y.size<=sizeLine/\k=((y.size:Int) != 0):=e
  subst e'
  exact PySem.W.truthy_bytes (by omega) ⟨H,I.tok _,q⟩
 | ref p=>
  cases rx;have e':(∃xs,SqL X.K H p xs/\k=!xs.isEmpty)\/(∃xs,SqT X.K H p xs/\k=!xs.isEmpty)\/∃kvs,H p=some (.dK kvs)/\k=!kvs.isEmpty:=e
  rcases e' with ⟨xs,hx,e'⟩ | ⟨xs,hx,e'⟩ | ⟨kvs,hx,e'⟩
  ·subst e'
   obtain ⟨its,r,pl,hz⟩:=I.list hx;have hlen:=r.length
   exact wpAny_truthy_list pl.isList (by simp only [size_toArray];omega) ⟨H,I.tok _,by rw [gY r];exact q⟩
  ·subst e'
   obtain ⟨its,r,pl,hz⟩:=I.tuple hx;have hlen:=r.length
   exact truthy_tuple pl (by simp only [size_toArray];omega) ⟨H,I.tok _,by rw [gY r];exact q⟩
  ·subst e'
   obtain ⟨hz,hS,vs,r,m⟩:kvs.length<=sizeLine/\(p==sysModules)=false/\∃vs,KV kvs vs/\s.heap.DictOf (jU X.prog X.w) p vs:=I.hok p _ hx
   have hlen:kvs.length=vs.length:=Paired.length r
   exact wpAny_truthy_dict hS m (by omega) ⟨H,I.tok _,by rw [mN r];exact q⟩
 | _=>exact (show False from e).elim
theorem E9 (ha:PE X a ta) (he:∀whole,isTrue a X.env whole=(do let v <-whole;standAt a.pos;holding [v] (truthy v))) :
  PT X a (fun U H Q=>ta U H fun x H'=>∃k,uM X.K x H' k/\Q k H'):=by
 intro pins s U H Q I h;exact isTrue_plain (bg (ha pins s U H _ I h) fun v s1 ⟨x,H1,I1,r1,q1⟩=>za pins s1 U H1 x v Q I1 r1 q1) (he _)
theorem vals1 {x:V} (r:Vals [x] us):∃u,us=[u]/\RelV x u:=by
 cases r with
 | cons r1 r2=>cases r2;exact ⟨_,rfl,r1⟩
theorem qz:CallR X (.type "int") (fun xs H Q=>(∃i,xs=[.int i]/\Q (.int i) H)\/∃k,xs=[.bl k]/\Q (.int (if k then 1 else 0)) H):=by
 intro pins s U H xs us Q I r h;rcases h with ⟨i,rfl,q⟩ | ⟨k,rfl,q⟩
 ·obtain ⟨u,rfl,t,rfl⟩:=vals1 r
  exact call_int_int ⟨.int i,H,I,⟨_,rfl⟩,q⟩
 ·obtain ⟨u,rfl,r1⟩:=vals1 r
  cases r1;exact call_int_bool ⟨.int (if k then 1 else 0),H,I.tok _,⟨_,rfl⟩,q⟩
end
theorem RelO.some_of {v:V} {o:Option Value} (r:RelO (some v) o):∃u,o=some u/\RelV v u:=by
 cases o with
 | none=>exact (show False from r).elim
 | some u=>exact ⟨u,rfl,r⟩
structure Room (k:Nat) (A:Around):Prop where
 hd:A.handled=none
 dp:A.depth+3*k+5<recursionLimit
 un:A.units+16*k+200<cLine
 gd:A.guards=some []
theorem Room.mono {j k:Nat} (r:Room k A) (h:j<=k):Room j A:=⟨r.hd,by have:=r.dp;omega,by have:=r.un;omega,r.gd⟩
theorem Room.deeper {k:Nat} (r:Room (k+1) A) (env:Env):Room k (A.deeper env):=
 ⟨r.hd,by have:=r.dp;show A.depth+1+3*k+5<_;omega,by have:=r.un;show A.units+3+16*k+200<_;omega,r.gd⟩
theorem Room.depth {k:Nat} (r:Room k A):A.depth<recursionLimit:=by have:=r.dp;omega
theorem Room.units {k:Nat} (r:Room k A):A.units+64<cLine:=by have:=r.un;omega
def bb:TA:=fun _ H Q=>Q [] H
def ao (ta:TE) (tr:TA):TA:=fun U H Q=>ta U H fun x H1=>tr U H1 fun xs H2=>Q (x::xs) H2
section
variable {X:Cx} {e:Expr} {es:List Expr} {te:TE} {t:TA} {pos:Pos}
theorem dF:PA X [] bb:=fun _ _ _ _ H Q I h=>Calls.spliced_nil ⟨[],H,I,.nil,h⟩
theorem bK (ha:PE X e te) (hr:PA X es t) (hs:starEach (e::es) X.env=(false,eval e X.env)::starEach es X.env:=by rfl):PA X (e::es) (ao te t):=by
 intro pos pins s U H Q I h;rw [hs];show wpAny _ _ (spliced ((false,eval e X.env)::backTo pos (starEach es X.env))) _ _ s
 refine Calls.spliced_cons (bg (ha pins s U H _ I h) fun u s1 ⟨x,H1,I1,r1,q1⟩=>?_)
 exact bg (hr pos pins s1 U H1 _ I1 q1) fun us s2 ⟨xs,H2,I2,r2,q2⟩=>⟨x::xs,H2,I2,.cons r1 r2,q2⟩
def jq (t:TA):TE:=fun U H Q=>t U H fun xs H1=>xs.length<=sizeLine/\∀p,H1 p=none->Q (.ref p) (upd H1 p (.tup xs))
def pj (t:TA):TE:=fun U H Q=>t U H fun xs H1=>xs.length<=sizeLine/\∀p,H1 p=none->Q (.ref p) (upd H1 p (.lst xs))
theorem u4 {x1} (h:PA X es t):PE X (.Tuple es x1 pos) (jq t):=by
 intro pins s U H Q I hq;refine wpAny_Tuple_spliced (bg (h pos pins s U H _ I hq) fun us s1 ⟨xs,H1,I1,r,z,q⟩=>⟨by rw [<-r.length];exact z,?_⟩)
 have hf:H1 s1.heap.objs.size=none:=I1.hok.fresh (KA _)
 refine ⟨.ref s1.heap.objs.size,upd H1 s1.heap.objs.size (.tup xs),I1.laid (t':=s1.toks) (fun b u e=>Kz _ e) (KA _) ?_,rfl,q _ hf⟩
 exact ⟨z,us,r,⟨_,Heap.get?_push_size _ rfl,rfl,_,rfl⟩⟩
theorem BY (h:PA X es t):PE X (.List es pos) (pj t):=by
 intro pins s U H Q I hq;refine wpAny_List_spliced (bg (h pos pins s U H _ I hq) fun us s1 ⟨xs,H1,I1,r,z,q⟩=>⟨by rw [<-r.length];exact z,?_⟩)
 have hf:H1 s1.heap.objs.size=none:=I1.hok.fresh (KA _)
 refine ⟨.ref s1.heap.objs.size,upd H1 s1.heap.objs.size (.lst xs),I1.laid (t':=s1.toks) (fun b u e=>Kz _ e) (KA _) ?_,rfl,q _ hf⟩
 exact ⟨z,us,0,r,Heap.get?_push_size _ rfl⟩
end
abbrev Sp:=List V->Hp->VK->XK->Prop
abbrev vg:=List Env->Hp->Shared->XK->Value->Shared->Prop
structure xC (P:Program) (w:World) (K:Fg) (mg:Str->Option Value) (base:Heap) (A:Around) (outer:List Env) (s:Shared) (H:Hp):Prop where
 frames:A.frames=some outer
 mod:Mod K mg base
 bs:∀b o,base.get? b=some o->s.heap.get? b=some o/\H b=none
 bsz:base.objs.size<=s.heap.objs.size
 funs:s.heap.FunFrames base outer
 frf:∀b∈uf outer,H b=none
 hok:HOk P w H s.heap
 bare:AllBare s.gens
def CE (outer:List Env) (P:Program) (w:World) (H:Hp) (s:Shared) (Q:VK) (u:Value) (s':Shared):Prop:=
 ∃v H',s'.os=s.os/\AllBare s'.gens/\Un (uf outer) [] H H' s.heap s'.heap/\HOk P w H' s'.heap/\RelV v u/\Q v H'
def CR (CX:vg) (outer:List Env) (P:Program) (w:World) (H:Hp) (s:Shared) (Q:VK) (E:XK) (r:Result) (s':Shared):Prop:=
 match r with
 | .ok (.ret u)=>CE outer P w H s Q u s'
 | .ok _=>False
 | .error e=>CX outer H s E e s'
structure bT (P:Program) (w:World) (K:Fg) (mg:Str->Option Value) (base:Heap) (CX:vg) (k:Nat) (f:Addr) (fd:FuncData) (ps:List Str) (sp:Sp):Prop where
 len:∀vs H Q E,sp vs H Q E->vs.length=ps.length
 run:∀(A:Around) (outer:List Env) (s:Shared) (H:Hp) (args:Args) (us:List Value) (vs:List V) (Q:VK) (E:XK),Room k A->xC P w K mg base A outer s H->BindsTo s fd args (ps.zip us)->Vals vs us->sp vs H Q E ->
  codeAny (model P w) A (.call (.ref f) args) (CR CX outer P w H s Q E) s
section
variable {X:Cx} {pins:List (Addr×Obj)} {U:St} {H:Hp} {s s':Shared}
theorem Inv.env0 (I:Inv X pins U H s):xC X.prog X.w X.K X.mg X.base X.A X.stack s H:=
 ⟨I.ok.frames,I.ok.mod,I.bs,Nat.le_trans I.ok.bsz I.sz,I.stack,I.stkFree,I.hok,I.bare⟩
theorem Inv.after {Q:VK} (I:Inv X pins U H s) (h:CE X.stack X.prog X.w H s Q u s'):EP X pins U Q u s':=by
 obtain ⟨v,H',os,bare,un,hok,r,q⟩:=h;obtain ⟨hh,g,d,t,os'⟩:=s'
 obtain rfl:os'=s.os:=os
 exact ⟨v,H',I.call (h':=hh) (g':=g) (d':=d) (t':=t) (ch:=[]) un hok bare (fun b z=>absurd z (by simp)),r,q⟩
end
def cF (sp:Sp) (dvs:List V) (E:XK) (t:TA):TE:=fun U H Q=>t U H fun vs H1=>sp (vs++dvs) H1 Q E
def Binds (K:Fg) (fd:FuncData) (ps:List Str) (ds:List Value):Prop:=
 ∀(s:Shared) (us:List Value),K.In s.heap->(us++ds).length=ps.length->BindsTo s fd ⟨us,[]⟩ (ps.zip (us++ds))
theorem Binds.all {fd:FuncData} (h:∀us:List Value,us.length=ps.length->bindArgs fd ⟨us,[]⟩=pure (ps.zip us)):Binds K fd ps []:=fun s us _ hl=>by
 rw [append_nil] at hl ⊢;exact .of_eq (h us hl)
def Gd (CX:vg) (X:Cx) (E:XK):Prop:=∀(pins:List (Addr×Obj)) (U:St) (H:Hp) (s:Shared) (e:Value) (s':Shared),Inv X pins U H s->CX X.stack H s E e s'->X.xe e s'
section
variable {X:Cx} {CX:vg} {k:Nat} {f C:Addr} {fd:FuncData} {ps:List Str} {sp:Sp} {dvs:List V} {ds:List Value} {E:XK} {x m:Str} {p pos apos:Pos} {e o:Expr} {es:List Expr} {ta:TE} {t:TA}
theorem zk {U:St} {H:Hp} {s:Shared} {Q:VK} {vs:List V} (F:bT X.prog X.w X.K X.mg X.base CX k f fd ps sp) (hr:Room k X.A) (hb:Binds X.K fd ps ds) (hd:Vals dvs ds) (hx:Gd CX X E)
  (I:Inv X pins U H s) (r:Vals vs us) (h:sp (vs++dvs) H Q E):wpAny (model X.prog X.w) X.A (call (.ref f) us) (EP X pins U Q) X.xe s:=by
 have r2:Vals (vs++dvs) (us++ds):=r.append hd
 have hl:(us++ds).length=ps.length:=by rw [<-r2.length];exact F.len _ _ _ _ h
 refine wpAny_call (codeAny_mono (F.run X.A X.stack s H ⟨us,[]⟩ (us++ds) (vs++dvs) Q E hr I.env0 (hb s us I.kIn hl) r2 h) fun r s' hq=>?_)
 cases r with
 | error e=>exact hx pins U H s e s' I hq
 | ok fl=>
  cases fl with
  | ret u=>exact I.after hq
  | next=>exact False.elim hq
  | brk=>exact False.elim hq
  | cont=>exact False.elim hq
theorem ES (F:bT X.prog X.w X.K X.mg X.base CX k f fd ps sp) (hr:Room k X.A) (hg:Gl X x) (hm:X.mg x=some (.ref f)) (hk:PySem.W.keepIn X.K (.ref f)=true) (hb:Binds X.K fd ps ds) (hd:Vals dvs ds) (hx:Gd CX X E)
  (ha:PA X (e::es) t) (hdb:(x==("__debug__":Str))=false:=by decide) (he:starEach (e::es) X.env=(false,eval e X.env)::starEach es X.env:=by rfl) (hpl:(backTo pos (starEach es X.env)).any (·.1)=false:=by rfl) :
  PE X (.Call (.Name x p) (e::es) [] pos) (cF sp dvs E t):=by
 intro pins s U H Q I h;refine wpAny_Call_Name_kw (oF I hg hm ?_ hdb)
 refine PySem.W.callWith_K (h₀:=X.base) I.ok.mod.kin hk (bg (ha pos pins s U H _ I h) fun us s1 ⟨vs,H1,I1,r,q⟩=>⟨I1.kIn,?_⟩) he hpl
 exact zk F hr hb hd hx I1 r q
end
structure aR (N P:List Str) (sc:Scope):Prop where
 kind:sc.kind=.function
 co:sc.isCoroutine=false
 gen:sc.isGenerator=false
 nd:N.Nodup
 pre:N.take P.length=P
 par:∀x∈P,sc.names.lookup x=some .local\/sc.names.lookup x=some .cell
 nofree:∀y∈sc.names,y.2≠.free
theorem jg {kindOf:Str->Option NameKind} {x:Str}:∀{binds:List (Str×Value)} {m:Str->Option Value},(∀v,(x,v)∉binds)->bindL kindOf binds m x=m x
 | [],_,_=>rfl
 | (n,v)::r,m,h=>by
  unfold bindL;rw [jg fun w hw=>h w (Ku _ hw)]
  split
  ·have:x≠n:=by rintro rfl;exact h v mem_cons_self
   simp [this]
  ·rfl
theorem ji {kindOf:Str->Option NameKind} {x:Str}:∀{binds:List (Str×Value)} {m:Str->Option Value},(∀v,(x,v)∉binds)->bindC kindOf binds m x=m x
 | [],_,_=>rfl
 | (n,v)::r,m,h=>by
  unfold bindC;rw [ji fun w hw=>h w (Ku _ hw)]
  split
  ·rfl
  ·have:x≠n:=by rintro rfl;exact h v mem_cons_self
   simp [this]
theorem jh {kindOf:Str->Option NameKind} {x:Str} {v:Value}:∀{P:List Str} {vs:List Value} {i:Nat} {m:Str->Option Value},P.Nodup->P[i]?=some x->vs[i]?=some v->kindOf x=some .local ->
  bindL kindOf (P.zip vs) m x=some v
 | [],_,_,_,_,h,_,_=>by simp at h
 | _::_,[],_,_,_,_,h,_=>by simp at h
 | p::P,w::vs,0,m,nd,h1,h2,hk=>by
  simp at h1 h2;subst h1;subst h2;show bindL kindOf ((p,w)::P.zip vs) m p=_
  unfold bindL;rw [jg fun v hv=>(List.nodup_cons.mp nd).1 (List.of_mem_zip hv).1,if_pos hk]
  simp
 | p::P,w::vs,i+1,m,nd,h1,h2,hk=>by
  show bindL kindOf ((p,w)::P.zip vs) m x=_
  unfold bindL;exact jh (i:=i) (List.nodup_cons.mp nd).2 (by simpa using h1) (by simpa using h2) hk
theorem jj {kindOf:Str->Option NameKind} {x:Str} {v:Value}:∀{P:List Str} {vs:List Value} {i:Nat} {m:Str->Option Value},P.Nodup->P[i]?=some x->vs[i]?=some v->kindOf x≠some .local ->
  bindC kindOf (P.zip vs) m x=some v
 | [],_,_,_,_,h,_,_=>by simp at h
 | _::_,[],_,_,_,_,h,_=>by simp at h
 | p::P,w::vs,0,m,nd,h1,h2,hk=>by
  simp at h1 h2;subst h1;subst h2;show bindC kindOf ((p,w)::P.zip vs) m p=_
  unfold bindC;rw [ji fun v hv=>(List.nodup_cons.mp nd).1 (List.of_mem_zip hv).1,if_neg hk]
  simp
 | p::P,w::vs,i+1,m,nd,h1,h2,hk=>by
  show bindC kindOf ((p,w)::P.zip vs) m x=_
  unfold bindC;exact jj (i:=i) (List.nodup_cons.mp nd).2 (by simpa using h1) (by simpa using h2) hk
def start (N:List Str) (vs:List V):St:=vs.map some++List.replicate (N.length-vs.length) none
def jL (CX:vg) (P:Program) (w:World) (K:Fg) (mg:Str->Option Value) (base:Heap) (N:List Str) (qual:Str) (scope:Scope) (f:Addr) (cd:Value) (A:Around) (outer:List Env) (s:Shared) (H:Hp) (E:XK):Cx where
 prog:=P
 w:=w
 K:=K
 mg:=mg
 base:=base
 A:=A.deeper (envOfC qual scope s.heap.objs.size f cd)
 N:=N
 s₀:=s
 H₀:=H
 env:=envOfC qual scope s.heap.objs.size f cd
 outer:=outer
 stack:=envOfC qual scope s.heap.objs.size f cd::outer
 ex:=[]
 calm:=true
 fn:=fun _=>true
 pn:=[]
 xe:=fun e s'=>wpAny (model P w) (A.deeper (envOfC qual scope s.heap.objs.size f cd)) (leaving (envOfC qual scope s.heap.objs.size f cd) e) (fun _ s''=>CX outer H s E e s'') (fun e' s''=>CX outer H s E e' s'') s'
theorem lR {sc:Scope} (h:sc.names.lookup x=some .cell):∃c,(cellsFrom n sc.names []).lookup x=some c:=by
 have q:=PySem.W.cellsFrom_some sc.names n [] (.inl h)
 exact Option.isSome_iff_exists.mp q
theorem qc {CX:vg} {P:Program} {w:World} {f:Addr} {cd:Value} {outer:List Env} {s s1:Shared} {H:Hp} {E:XK} {vs:List V}
  (S:aR N ps scope) (hd:A.handled=none) (e0:xC P w K mg base A outer s H) (hl:vs.length=ps.length) (r:Vals vs us)
  (x:InCallC s s.heap.objs.size (bindL (envOfC qual scope s.heap.objs.size f cd).kindOf (ps.zip us) fun _=>none) (cellsFrom (s.heap.objs.size+1) scope.names []) (bindC (envOfC qual scope s.heap.objs.size f cd).kindOf (ps.zip us) fun _=>none) s1) :
  Inv (jL CX P w K mg base N qual scope f cd A outer s H E) [] (start N vs) H s1:=by
 have hpl:ps.length<=N.length:=by have:=congrArg List.length S.pre;rw [length_take] at this;omega
 obtain ⟨h1,tk,rfl,hk⟩:=x.done;have noA:∀b:Addr,b∉(jL CX P w K mg base N qual scope f cd A outer s H E).ex:=fun b z=>absurd (show b∈([]:List Addr) from z) (by simp)
 refine ⟨⟨e0.mod,S.kind,rfl,rfl,KA _,fun y z c h1 h2=>?_,fun y hy=>?_,fun y c _ h=>?_,fun _=>hd,Around.frames_deeper e0.frames,.inr ⟨rfl,rfl⟩,fun b z=>absurd z (noA b),e0.bs,e0.bsz,fun b _ _=>noA b,fun b z=>absurd z (noA b),e0.funs,e0.frf⟩,
  rfl,e0.bare,Un.kept hk,⟨_,x.toInCall.ns,fun i y v h1 h2 h3=>?_⟩,fun y c h=>⟨_,x.cell y c h⟩,e0.hok.fresh (KA _),fun y c h=>?_,fun p hp=>absurd (show p∈([]:List (Addr×Obj)) from hp) (by simp),e0.hok.kept hk,?_⟩
 ·exact name_of_addr x.apart (PySem.mem_of_lookup h1) (PySem.mem_of_lookup h2)
 ·have hy:scope.names.lookup y=some .cell\/scope.names.lookup y=some .free:=hy
  rcases hy with hy | hy
  ·exact lR hy
  ·exact absurd rfl (S.nofree _ (PySem.mem_of_lookup hy))
 ·exact Nat.le_of_lt (x.above y c (PySem.mem_of_lookup h))
 ·have hi:i<vs.length:=by
   unfold start at h2;by_cases hi:i<vs.length
   ·exact hi
   ·rw [getElem?_append_right (by simpa using hi)] at h2
    rw [getElem?_replicate] at h2;split at h2<;>cases h2
  have ha:vs[i]?=some v:=by
   unfold start at h2;rw [getElem?_append_left (by simpa using hi),getElem?_map] at h2
   cases e:vs[i]? with
   | none=>rw [e] at h2;cases h2
   | some a=>rw [e] at h2;cases h2;rfl
  obtain ⟨u,hu,rv⟩:=r.get ha;have hp:ps[i]?=some y:=by
   rw [<-S.pre,List.getElem?_take_of_lt (by omega)];exact h1
  have ndP:ps.Nodup:=by rw [<-S.pre];exact S.nd.sublist (List.take_sublist _ _)
  refine ⟨u,rv,?_⟩
  rcases S.par y (mem_of_getElem? hp) with k | k
  ·exact .inl ⟨k,jh ndP hp hu k⟩
  ·obtain ⟨c,e⟩:=lR (n:=s.heap.objs.size+1) k
   refine .inr ⟨.inl k,c,e,?_⟩
   have q:=x.cell y c e
   rw [jj ndP hp hu (by show scope.names.lookup y≠_;rw [k];decide)] at q
   exact q
 ·exact e0.hok.fresh (Nat.le_of_lt (x.above y c (PySem.mem_of_lookup h)))
 ·unfold start
  show _=N.length
  rw [length_append,length_map,List.length_replicate];omega
theorem DP {CX:vg} {P:Program} {w:World} {k:Nat} {f:Addr} {name:Str} {params:Arguments} {body:List Stmt} {dV kV doc pm cdv ct oc:Value} {an od:Option Addr}
  {osl:Array (Option Value)} {sp:Sp} (lk:K.lookup f=some ⟨oc,od,.func (PySem.W.fnOf name qual params body scope dV kV doc pm an cdv ct),osl⟩) (hcd:PySem.W.codeIn K cdv qual=true) (S:aR N ps scope)
  (len:∀vs H Q E,sp vs H Q E->vs.length=ps.length)
  (hbody:∀(A:Around) (outer:List Env) (s:Shared) (H:Hp) (vs:List V) (Q:VK) (E:XK),Room k (A.deeper (envOfC qual scope s.heap.objs.size f cdv))->sp vs H Q E ->
   ∃t,PSs (jL CX P w K mg base N qual scope f cdv A outer s H E) body t/\t { nx:=fun _ H'=>Q .non H',rt:=Q } (start N vs) H) :
  bT P w K mg base CX (k+1) f (PySem.W.fnOf name qual params body scope dV kV doc pm an cdv ct) ps sp:=by
 refine ⟨len,fun A outer s H args us vs Q E hr e0 hb r hsp=>?_⟩
 have hl:=len _ _ _ _ hsp
 have KX:K.In s.heap:=e0.mod.kin.keeps fun b o e=>(e0.bs b o e).1
 have lim:s.heap.NoLimit:=e0.mod.nolimit.keeps fun b o e=>(e0.bs b o e).1
 have hkind:∀y∈ps.zip us,scope.names.lookup y.1=some .local\/(scope.names.lookup y.1=some .cell/\((cellsFrom (s.heap.objs.size+1) scope.names []).lookup y.1).isSome=true):=fun ⟨n,v⟩ hy=>by
  rcases S.par n (List.of_mem_zip hy).1 with q | q
  ·exact .inl q
  ·exact .inr ⟨q,PySem.W.cellsFrom_some _ _ _ (.inl q)⟩
 refine codeAny_call_function hr.depth (KX _ _ lk) rfl S.co S.gen rfl (PySem.W.codeRec_of KX hcd) (hb _ _ _ _ ?_)
 refine wpAny_newFunctionEnv_cells S.kind hkind fun env he s1 x=>?_
 subst he;refine ⟨lim.keeps x.toInCall.keep,codeAny_func ?_⟩
 obtain ⟨t,ht,hq⟩:=hbody A outer s H vs Q E (hr.deeper _) hsp;have I:Inv (jL CX P w K mg base N qual scope f cdv A outer s H E) [] (start N vs) H s1:=qc S hr.hd e0 hl r x
 refine wpAny_mono (ht [] s1 (start N vs) H _ I hq) (fun fl s' hs=>?_) fun e s' hs=>hs
 have fin:∀{U':St} {H':Hp} {v:V} {u:Value},Inv (jL CX P w K mg base N qual scope f cdv A outer s H E) [] U' H' s'->RelV v u->Q v H'->CE outer P w H s Q u s':=
  fun {U' H' v u} J rv q=>⟨v,H',J.os,J.bare,J.base,J.hok,rv,q⟩
 cases fl with
 | ret u=>
  obtain ⟨v,U',H',J,rv,q⟩:=hs;exact fin J rv q
 | next=>
  obtain ⟨U',H',J,q⟩:=hs;exact fin (v:=V.non) (u:=Value.none) J rfl q
 | brk=>
  obtain ⟨_,_,_,q⟩:=hs;exact False.elim q
 | cont=>
  obtain ⟨_,_,_,q⟩:=hs;exact False.elim q
section
variable {X:Cx} {x:Str} {p pos:Pos} {e:Expr} {es:List Expr} {t:TA} {id T:String} {r:List V->Hp->VK->Prop}
def jV (r:List V->Hp->VK->Prop) (t:TA):TE:=fun U H Q=>t U H fun vs H1=>r vs H1 Q
theorem yU (hc:CallR X (.builtin id) r) (hg:Gl X x) (hm:X.mg x=none) (hv:bootBuiltins x=some (.builtin id)) (ha:PA X (e::es) t) (hn:x ≠ "__name__":=by decide) (hdb:(x==("__debug__":Str))=false:=by decide)
  (he:starEach (e::es) X.env=(false,eval e X.env)::starEach es X.env:=by rfl) (hpl:(backTo pos (starEach es X.env)).any (·.1)=false:=by rfl):PE X (.Call (.Name x p) (e::es) [] pos) (jV r t):=by
 intro pins s U H Q I h;refine wpAny_Call_Name_kw (yK I hg hm hv ?_ hn hdb)
 exact PyProof.Rows.callWith_builtin1 (bg (ha pos pins s U H _ I h) fun us s1 ⟨vs,H1,I1,r1,q1⟩=>hc pins s1 U H1 vs us Q I1 r1 q1) he hpl
theorem Ce (hc:CallR X (.type T) r) (hg:Gl X x) (hm:X.mg x=none) (hv:bootBuiltins x=some (.type T)) (ha:PA X (e::es) t) (hn:x ≠ "__name__":=by decide) (hdb:(x==("__debug__":Str))=false:=by decide)
  (he:starEach (e::es) X.env=(false,eval e X.env)::starEach es X.env:=by rfl) (hpl:(backTo pos (starEach es X.env)).any (·.1)=false:=by rfl):PE X (.Call (.Name x p) (e::es) [] pos) (jV r t):=by
 intro pins s U H Q I h;refine wpAny_Call_Name_kw (yK I hg hm hv ?_ hn hdb)
 exact PyProof.Rows.callWith_type1 (bg (ha pos pins s U H _ I h) fun us s1 ⟨vs,H1,I1,r1,q1⟩=>hc pins s1 U H1 vs us Q I1 r1 q1) he hpl
end
def fQ (n:Nat) (i:Int):Option Nat:=if 0<=i then (if i<n then some i.toNat else none) else if -(n:Int)<=i then some (i+n).toNat else none
def eD {α:Type} (xs:List α) (i:Int):Option α:=(fQ xs.length i).bind fun j=>xs[j]?
theorem wM {i:Int} {j:Nat} (h:fQ n i=some j):seqIndex? i n=some j/\j<n/\-(n:Int)<=i/\i<n:=by
 unfold fQ at h;by_cases h0:0<=i
 ·rw [if_pos h0] at h
  by_cases h1:i<n
  ·rw [if_pos h1] at h
   have e:i.toNat=j:=Option.some.inj h
   exact ⟨by rw [seqIndex_of h0 h1,e],by omega,by omega,h1⟩
  ·rw [if_neg h1] at h;cases h
 ·rw [if_neg h0] at h
  by_cases h1:-(n:Int)<=i
  ·rw [if_pos h1] at h
   have e:(i+n).toNat=j:=Option.some.inj h
   exact ⟨by rw [seqIndex_neg (by omega) h1,e],by omega,h1,by omega⟩
  ·rw [if_neg h1] at h;cases h
theorem Gv {xs:List α} {i:Int} {v:α} (h:eD xs i=some v):∃j,seqIndex? i xs.length=some j/\xs[j]?=some v/\j<xs.length/\-(xs.length:Int)<=i/\i<xs.length:=by
 unfold eD at h
 cases e:fQ xs.length i with
 | none=>rw [e] at h;cases h
 | some j=>
  rw [e] at h;obtain ⟨h1,h2,h3,h4⟩:=wM e;exact ⟨j,h1,h,h2,h3,h4⟩
def EW (b:Expr):Prop:=∀o i,subscripted b false o i=operate [o,i] (getItem o i)
def IxR (X:Cx) (r:R2):Prop:=
 ∀(value slice:Expr) (pins:List (Addr×Obj)) (s:Shared) (U:St) (H:Hp) (x y:V) (v u:Value) (Q:VK),Inv X pins U H s->RelV x v->RelV y u->r x y H Q ->
  subscripted slice false v u=operate [v,u] (getItem v u)->wpAny (model X.prog X.w) X.A (subscriptTail value slice v u) (EP X pins U Q) X.xe s
def JT (X:Cx) (id:String) (r:V->List V->Hp->VK->Prop):Prop:=
 ∀(pins:List (Addr×Obj)) (s:Shared) (U:St) (H:Hp) (x:V) (xs:List V) (v:Value) (us:List Value) (Q:VK),Inv X pins U H s->RelV x v->Vals xs us->r x xs H Q ->
  wpAny (model X.prog X.w) X.A (call (.builtin id) (v::us)) (EP X pins U Q) X.xe s
section
variable {X:Cx} {a b:Expr} {ta tb:TE} {pos:Pos}
theorem IxR.or {r r':R2} (h:IxR X r) (h':IxR X r'):IxR X (fun x y H Q=>r x y H Q\/r' x y H Q):=by
 intro value slice pins s U H x y v u Q I rx ry q hs;rcases q with q | q
 ·exact h value slice pins s U H x y v u Q I rx ry q hs
 ·exact h' value slice pins s U H x y v u Q I rx ry q hs
theorem sS {r:R2} (hr:IxR X r) (ha:PE X a ta) (hb:PE X b tb) (hs:EW b):PE X (.Subscript a b pos) (rz r ta tb):=by
 intro pins s U H Q I h;exact Subscript_ (Bb ha hb I h fun v u s2 x y H2 I2 rx ry q=>hr a b pins s2 U H2 x y v u Q I2 rx ry q (hs _ _))
def Dc (K:Fg):R2:=fun x y H Q=>∃p xs i v,x=.ref p/\y=.int i/\SqL K H p xs/\eD xs i=some v/\Q v H
def C9 (K:Fg):R2:=fun x y H Q=>∃p xs i v,x=.ref p/\y=.int i/\SqT K H p xs/\eD xs i=some v/\Q v H
def Da:R2:=fun x y H Q=>∃z i c,x=.str z/\y=.int i/\z.length<=sizeLine/\eD z.cps.toList i=some c/\Q (.str ⟨#[c]⟩) H
theorem ix_list:IxR X (Dc X.K):=by
 intro value slice pins s U H x y v u Q I rx ry h hs;obtain ⟨p,xs,i,z,rfl,rfl,hq,he,q⟩:=h
 cases rx;obtain ⟨t,rfl⟩:=ry;obtain ⟨its,r,pl,hz⟩:=I.list hq;obtain ⟨j,h1,h2,h3,h4,h5⟩:=Gv he;obtain ⟨w,ew,rw'⟩:=r.get h2;have hl:=r.length
 have hn:=Bv
 have fin:EP X pins U Q w s:=⟨z,H,I,rw',q⟩
 by_cases h0:0<=i
 ·have hj:i.toNat=j:=by
   rw [seqIndex_of h0 h5] at h1;exact Option.some.inj h1
  exact item_listR pl.isList h0 (by omega) (by rw [hj];simpa using ew) fin hs
 ·have hj:(i+(its.toArray.size:Int)).toNat=j:=by
   rw [seqIndex_neg (by omega) h4] at h1
   rw [size_toArray,<-hl];exact Option.some.inj h1
  exact subscriptTail_builtinR (x:=w) pl.isList.typeIs slot_list_getitem.lookup
   (wpAny_getItem_list_neg (Q:=fun r s'=>r=w/\EP X pins U Q r s') pl.isList (by omega) (by rw [size_toArray]<;>omega) (by omega) (by rw [hj];simpa using ew) ⟨rfl,fin⟩) hs
theorem ix_tup:IxR X (C9 X.K):=by
 intro value slice pins s U H x y v u Q I rx ry h hs;obtain ⟨p,xs,i,z,rfl,rfl,hq,he,q⟩:=h
 cases rx;obtain ⟨t,rfl⟩:=ry;obtain ⟨its,r,pl,hz⟩:=I.tuple hq;obtain ⟨j,h1,h2,h3,h4,h5⟩:=Gv he;obtain ⟨w,ew,rw'⟩:=r.get h2;have hl:=r.length
 have hn:=Bv
 have fin:EP X pins U Q w s:=⟨z,H,I,rw',q⟩
 exact subscriptTail_builtinR (x:=w) pl.typeIs slot_tuple_getitem.lookup
  (getItem_tuple (j:=j) (Q:=fun r s'=>r=w/\EP X pins U Q r s') pl (by omega) (by omega) (by rw [size_toArray,<-hl];exact h1) (by simpa using ew) ⟨rfl,fin⟩) hs
theorem AB:IxR X Da:=by
 intro value slice pins s U H x y v u Q I rx ry h hs;obtain ⟨z,i,c,rfl,rfl,hz,he,q⟩:=h;obtain ⟨t,rfl⟩:=rx;obtain ⟨t',rfl⟩:=ry;obtain ⟨j,h1,h2,h3,h4,h5⟩:=Gv he;have hl:z.cps.toList.length=z.length:=by simp [Str.length]
 rw [hl] at h1 h4 h5
 have hn:=Bv
 exact tail_any (typeIs_str s z t) slot_str_getitem.lookup (getItem_str (c:=c) (by
  have e1:decide (i < -(2 ^ 63:Int))=false:=decide_eq_false (by omega)
  have e2:decide (i≥2 ^ 63)=false:=decide_eq_false (by omega)
  rw [e1,e2,Bool.or_false]) (by rw [h1];simpa using h2) ⟨.str ⟨#[c]⟩,H,I.tok _,⟨_,rfl⟩,q⟩) hs
def Dd (K:Fg):R2:=fun x y H Q=>Dc K x y H Q\/C9 K x y H Q\/Da x y H Q
theorem Gg:IxR X (Dd X.K):=ix_list.or (ix_tup.or AB)
theorem call_len_seq:CallR X (.builtin "len") (fun xs H Q=>∃p ys,xs=[.ref p]/\(SqL X.K H p ys\/SqT X.K H p ys)/\Q (.int ys.length) H):=by
 intro pins s U H xs us Q I r h;obtain ⟨p,ys,rfl,hq,q⟩:=h;obtain ⟨u,rfl,rx⟩:=vals1 r
 cases rx;have hn:=Bv
 rcases hq with hq | hq
 ·obtain ⟨its,r',pl,hz⟩:=I.list hq
  have hlen:=r'.length
  exact Calls.call_len_list pl.isList (by simp only [size_toArray]<;>omega) ⟨.int ys.length,H,I.tok _,⟨s.toks+1,by rw [size_toArray,hlen]⟩,q⟩
 ·obtain ⟨its,r',pl,hz⟩:=I.tuple hq
  have hlen:=r'.length
  exact len_tuple pl (by simp only [size_toArray]<;>omega) ⟨.int ys.length,H,I.tok _,⟨s.toks+1,by rw [size_toArray,hlen]⟩,q⟩
theorem jO:CallR X (.builtin "len") (fun xs H Q=>∃z,xs=[.str z]/\z.length<=sizeLine/\Q (.int z.length) H):=by
 intro pins s U H xs us Q I r h;obtain ⟨z,rfl,hz,q⟩:=h;obtain ⟨u,rfl,t,rfl⟩:=vals1 r;have hn:=Bv
 exact len_str (by omega) ⟨.int z.length,H,I.tok _,⟨_,rfl⟩,q⟩
theorem CallR.or {f:Value} {r r':List V->Hp->VK->Prop} (h:CallR X f r) (h':CallR X f r'):CallR X f (fun xs H Q=>r xs H Q\/r' xs H Q):=by
 intro pins s U H xs us Q I rs q;rcases q with q | q
 ·exact h pins s U H xs us Q I rs q
 ·exact h' pins s U H xs us Q I rs q
theorem fu:CallR X (.type "list") (fun xs H Q=>∃p ys,xs=[.ref p]/\(SqL X.K H p ys\/SqT X.K H p ys)/\∀l,H l=none->Q (.ref l) (upd H l (.lst ys))):=by
 intro pins s U H xs us Q I r h;obtain ⟨p,ys,rfl,hq,q⟩:=h;obtain ⟨u,rfl,rx⟩:=vals1 r
 cases rx;have fin:∀(its:List Value),Vals ys its->ys.length<=sizeLine->∀(h':Heap) (c':Nat),(∀b o',s.heap.get? b=some o'->h'.get? b=some o') ->
   h'.get? s.heap.objs.size=some { cls:=.type "list",dict:=none,data:=.seq its.toArray c',slots:=#[] }->EP X pins U Q (.ref s.heap.objs.size) { s with heap:=h' }:=fun its r' hz h' c' kp e=>
  ⟨.ref s.heap.objs.size,_,I.laid (t':=s.toks) kp (KA _) (show ObjOk X.prog X.w _ h' _ (.lst ys) from ⟨hz,its,c',r',e⟩),rfl,q _ (I.hok.fresh (KA _))⟩
 rcases hq with hq | hq
 ·obtain ⟨its,r',pl,hz⟩:=I.list hq
  have hlen:=r'.length
  obtain ⟨o,ho,hc,n,hd⟩:=pl.isList;exact call_list_seq p (.inl rfl) ho hc hd (fun h' c' kp e=>fin its r' hz h' c' kp e) (by simp only [size_toArray]<;>omega)
 ·obtain ⟨its,r',pl,hz⟩:=I.tuple hq
  have hlen:=r'.length
  obtain ⟨o,ho,hc,n,hd⟩:=pl;exact call_list_seq p (.inr rfl) ho hc hd (fun h' c' kp e=>fin its r' hz h' c' kp e) (by simp only [size_toArray]<;>omega)
theorem iF:CallR X (.type "tuple") (fun xs H Q=>∃p ys,xs=[.ref p]/\((SqL X.K H p ys/\∀l,H l=none->Q (.ref l) (upd H l (.tup ys)))\/(SqT X.K H p ys/\Q (.ref p) H))):=by
 intro pins s U H xs us Q I r h;obtain ⟨p,ys,rfl,h⟩:=h;obtain ⟨u,rfl,rx⟩:=vals1 r
 cases rx;rcases h with ⟨hq,q⟩ | ⟨hq,q⟩
 ·obtain ⟨its,r',pl,hz⟩:=I.list hq
  have hlen:=r'.length
  refine call_tuple_list pl.isList (fun h' kp=>?_) (by simp only [size_toArray]<;>omega)
  have I1:Inv X pins U H { s with heap:=h' }:=I.kept (t':=s.toks) kp
  have I2:Inv X pins U (upd H h'.objs.size (.tup ys)) { s with heap:=h'.push { cls:=.type "tuple",data:=.seq its.toArray } }:=
   I1.laid (t':=s.toks) (fun b o e=>Kz _ e) (KA _) (show ObjOk X.prog X.w _ _ _ (.tup ys) from ⟨hz,its,r',IsTup.new _ _⟩)
  exact ⟨.ref h'.objs.size,_,I2,rfl,q _ (I1.hok.fresh (KA _))⟩
 ·obtain ⟨its,r',pl,hz⟩:=I.tuple hq
  exact call_tuple_same pl ⟨.ref p,H,I,rfl,q⟩
def HH (K:Fg) (T:String) (x:V) (H:Hp):Prop:=match x with
 | .str _=>T = "str"
 | .int _=>T = "int"
 | .ref p=>(T = "list"/\∃xs,SqL K H p xs)\/(T = "tuple"/\∃o,K.lookup p=some o/\o.cls=.type "tuple"/\o.dict=none) \/
   (T = "dict"/\((∃kvs,H p=some (.dK kvs))\/∃kvs,H p=some (.dT kvs)))\/(T = "set"/\∃S n,H p=some (.set S n))
 | _=>False
theorem rn {U:St} {H:Hp} {s:Shared} {T:String} {x:V} {v:Value} (I:Inv X pins U H s) (r:RelV x v) (ty:HH X.K T x H) :
  s.TypeIs v T/\∀a,v=.ref a->∃ob,s.heap.get? a=some ob/\ob.dict=none:=by
 cases x with
 | str z=>
  obtain ⟨t,rfl⟩:=r
  cases (show T = "str" from ty)
  exact ⟨typeIs_str s z t,fun _ e=>nomatch e⟩
 | int i=>
  obtain ⟨t,rfl⟩:=r
  cases (show T = "int" from ty)
  exact ⟨typeIs_int s i t,fun _ e=>nomatch e⟩
 | ref p=>
  cases r;rcases ty with ⟨rfl,xs,hq⟩ | ⟨rfl,o,hk,hc,hd⟩ | ⟨rfl,hk⟩ | ⟨rfl,S,n,hk⟩
  ·obtain ⟨its,_,pl,_⟩:=I.list hq
   refine ⟨pl.isList.typeIs,fun a e=>?_⟩
   cases e;obtain ⟨o,n,e,c,hd,_⟩:=pl;exact ⟨o,e,hd⟩
  ·refine ⟨⟨o,I.kIn p o hk,hc⟩,fun a e=>?_⟩
   cases e;exact ⟨o,I.kIn _ o hk,hd⟩
  ·have z:∃o,s.heap.get? p=some o/\o.ExactDict:=by
    rcases hk with ⟨kvs,hk⟩ | ⟨kvs,hk⟩
    ·obtain ⟨_,_,_,_,o,_,_,e,ex,_⟩:=I.hok p _ hk
     exact ⟨o,e,ex⟩
    ·obtain ⟨_,_,_,_,o,_,_,e,ex,_⟩:=I.hok p _ hk
     exact ⟨o,e,ex⟩
   obtain ⟨o,e,ex⟩:=z;refine ⟨⟨o,e,ex.1⟩,fun a e2=>?_⟩
   cases e2;exact ⟨o,e,ex.2.1⟩
  ·obtain ⟨o,_,_,_,e,ex,_⟩:=I.hok p _ hk
   refine ⟨⟨o,e,ex.1⟩,fun a e2=>?_⟩
   cases e2;exact ⟨o,e,ex.2.1⟩
 | _=>exact False.elim ty
def zg (K:Fg) (T:String) (r:V->List V->Hp->VK->Prop) (to:TE):TE:=fun U H Q=>to U H fun x H1=>HH K T x H1/\r x [] H1 Q
def FJ (K:Fg) (T:String) (r:V->List V->Hp->VK->Prop) (to:TE) (t:TA):TE:=fun U H Q=>to U H fun x H1=>HH K T x H1/\t U H1 fun xs H2=>r x xs H2 Q
variable {o e:Expr} {es:List Expr} {to:TE} {t:TA} {name:Str} {apos cpos:Pos} {T id:String} {r:V->List V->Hp->VK->Prop}
theorem sW (pa:PlainAttrs T) (slot:Slot T name id) (hty:typeOf (.builtin id)=pure (.type "method_descriptor")) (hm:JT X id r) (ho:PE X o to)
  (hbase:attributeBase o name X.env (eval o X.env)=eval o X.env:=by rfl) (hline:(apos.endLine==cpos.line)=true:=by rfl):PE X (.Call (.Attribute o name apos) [] [] cpos) (zg X.K T r to):=by
 intro pins s U H Q I h;refine wpAny_Call_method0_late hbase hline (bg (ho pins s U H _ I h) fun v s1 ⟨x,H1,I1,r1,ty,q1⟩=>?_)
 obtain ⟨h1,h2⟩:=rn I1 r1 ty;exact ⟨T,id,pa,slot,hty,h1,h2,Calls.callWith_builtin rfl (PySem.evalArgs_none (hm pins s1 U H1 x [] v [] Q I1 r1 .nil q1))⟩
theorem oj (pa:PlainAttrs T) (slot:Slot T name id) (hty:typeOf (.builtin id)=pure (.type "method_descriptor")) (hm:JT X id r) (ho:PE X o to) (ha:PA X (e::es) t)
  (hbase:attributeBase o name X.env (eval o X.env)=eval o X.env:=by rfl)
  (hfew:((backTo cpos (starEach (e::es) X.env)).all (fun x=>!x.1)&&(backToKw cpos (keywordEach [] X.env)).all (fun x=>x.1.isSome)
   && decide ((e::es).length+([]:List Keyword).length+(if ([]:List Keyword).isEmpty then 0 else 1)<30))=true:=by rfl)
  (hline:(apos.endLine==cpos.line)=true:=by rfl) (hs:starEach (e::es) X.env=(false,eval e X.env)::starEach es X.env:=by rfl) (hplain:(backTo cpos (starEach es X.env)).any (·.1)=false:=by rfl) :
  PE X (.Call (.Attribute o name apos) (e::es) [] cpos) (FJ X.K T r to t):=by
 intro pins s U H Q I h;refine wpAny_Call_method_late hbase hfew hline rfl (bg (ho pins s U H _ I h) fun v s1 ⟨x,H1,I1,r1,ty,q1⟩=>?_)
 obtain ⟨h1,h2⟩:=rn I1 r1 ty;refine ⟨T,id,pa,slot,hty,h1,h2,?_⟩
 have hA:=ha cpos pins s1 U H1 _ I1 q1
 rw [hs] at hA ⊢;refine Calls.callWith_builtin (by show (false||(backTo cpos (starEach es X.env)).any (·.1))=false;rw [hplain]<;>rfl) (Calls.evalArgs_plain ?_)
 exact bg hA fun us s2 ⟨vs,H2,I2,r2,q2⟩=>hm pins s2 U H2 x vs v us Q I2 r1 r2 q2
end
def JU (X:Cx) (id:String) (r:V->List V->Hp->VK->Prop):Prop:=
 ∀(pins:List (Addr×Obj)) (s:Shared) (U:St) (H:Hp) (x:V) (xs:List V) (v:Value) (us:List Value) (Q:VK),Inv X pins U H s->RelV x v->Vals xs us->r x xs H Q ->
  wpAny (model X.prog X.w) X.A (call (.builtin id) (v::us)) (EP X pins U Q) X.xe s
theorem Vals.one:∀{x:V} {us:List Value},Vals [x] us->∃u,us=[u]/\RelV x u
 | _,_,.cons r .nil=>⟨_,rfl,r⟩
theorem Vals.zero:∀{us:List Value},Vals [] us->us=[]
 | _,.nil=>rfl
theorem Vals.dropLast {xs:List V} (h:Vals xs us):Vals xs.dropLast us.dropLast:=by
 induction h with
 | nil=>exact .nil
 | cons r t ih=>
  cases t with
  | nil=>exact .nil
  | cons q t'=>exact .cons r ih
theorem mQ (l:List α):l.eraseIdx (l.length-1)=l.dropLast:=by
 induction l with
 | nil=>rfl
 | cons a r ih=>
  cases r with
  | nil=>rfl
  | cons b r=>
   have e:(a::b::r).length-1=((b::r).length-1)+1:=by
    have h1:(a::b::r).length=r.length+2:=rfl
    have h2:(b::r).length=r.length+1:=rfl
    omega
   rw [e,List.eraseIdx_cons_succ,ih];all_goals rfl
section
variable {X:Cx} {pins:List (Addr×Obj)} {U:St} {H:Hp} {s:Shared} {l b:Addr} {xs ys zs:List V}
theorem Inv.lset {its':List Value} {f:Array Value->Array Value} (I:Inv X pins U H s) (hH:H l=some (.lst xs))
  (e:s.heap.get? l=some { cls:=.type "list",data:=.seq its.toArray n }) (hf:f its.toArray=its'.toArray) (hv:Vals ys its') (hz:ys.length<=sizeLine) :
  Inv X pins U (upd H l (.lst ys)) { s with heap:=s.heap.update l (Obj.mapSeq f),toks:=t' }:=by
 have q:=PySem.IsL.update e f
 rw [hf] at q;refine I.write (x:=l) (e:=l) (by rw [hH];exact trivial) (.inl rfl) (fun b' u hb hu=>(Heap.get?_update_other s.heap (Obj.mapSeq f) (Ne.symm hb)).trans hu) ⟨_,q⟩ ?_
 exact ⟨hz,its',_,hv,q⟩
theorem Inv.lnew (I:Inv X pins U H s) (hv:Vals ys its) (hz:ys.length<=sizeLine) :
  Inv X pins U (upd H s.heap.objs.size (.lst ys)) { s with heap:=s.heap.push { cls:=.type "list",data:=.seq its.toArray },toks:=t' }:=
 I.laid (fun _ _ q=>Kz _ q) (KA _) ⟨hz,its,0,hv,Heap.get?_push_size _ rfl⟩
theorem Inv.fresh (I:Inv X pins U H s):H s.heap.objs.size=none:=I.hok.fresh (KA _)
theorem Inv.lstM (I:Inv X pins U H s) (hH:H l=some (.lst xs)):xs.length<=sizeLine/\∃(its:List Value) (n:Nat),Vals xs its/\xs.length=its.length/\s.heap.get? l=some { cls:=.type "list",data:=.seq its.toArray n }:=by
 obtain ⟨z,its,n,r,e⟩:=I.hok l _ hH;exact ⟨z,its,n,r,r.length,e⟩
end
section
variable {X:Cx}
def ET:V->List V->Hp->VK->Prop:=fun x vs H Q=>∃l xs y,x=.ref l/\vs=[y]/\H l=some (.lst xs)/\xs.length<sizeLine/\Q .non (upd H l (.lst (xs++[y])))
theorem Cd:JU X "list.append" ET:=by
 intro pins s U H x vs v us Q I rx rv h;obtain ⟨l,xs,y,rfl,rfl,hH,hz,q⟩:=h
 cases rx;obtain ⟨u,rfl,ru⟩:=rv.one;obtain ⟨z,its,n,r,hl,e⟩:=I.lstM hH;refine call_meets F.slot_list_append ⟨_,e,rfl⟩ F.entry_list_append (F.args_list_append_2 _ _) (PySem.list_append l its.toArray n u (by rw [size_toArray];omega)) ⟨e,?_⟩
 refine ⟨.non,_,I.lset (its':=its++[u]) hH e (by simp) (r.append (.cons ru .nil)) ?_,rfl,q⟩
 rw [length_append,length_singleton];omega
def zK:V->List V->Hp->VK->Prop:=fun x vs H Q=>∃l xs y,x=.ref l/\vs=[]/\H l=some (.lst xs)/\xs[xs.length-1]?=some y/\Q y (upd H l (.lst xs.dropLast))
theorem tw:JU X "list.pop" zK:=by
 intro pins s U H x vs v us Q I rx rv h;obtain ⟨l,xs,y,rfl,rfl,hH,hy,q⟩:=h
 cases rx;have hus:=rv.zero
 subst hus;obtain ⟨z,its,n,r,hl,e⟩:=I.lstM hH;obtain ⟨u,hu,ru⟩:=r.get hy;have hy':its.toArray[its.toArray.size-1]?=some u:=by
  show its.toArray[its.length-1]?=some u
  rw [<-Array.getElem?_toList,<-hl];exact hu
 refine call_meets F.slot_list_pop ⟨_,e,rfl⟩ F.entry_list_pop (F.args_list_pop_1 _) (MeetsSeq.list_pop_last l its.toArray n u hy' (by rw [size_toArray];omega)) ⟨e,?_⟩
 refine ⟨y,_,I.lset (its':=its.dropLast) hH e ?_ r.dropLast ?_,ru,q⟩
 ·show its.toArray.eraseIdxIfInBounds (its.toArray.size-1)=its.dropLast.toArray
  rw [size_toArray,List.eraseIdxIfInBounds_toArray,mQ]
 ·rw [length_dropLast]
  omega
end
section
variable {prog:Program} {w:World} {A:Around} {E:Value->Shared->Prop} {s:Shared}
set_option maxRecDepth 100000 in
end
end L2
namespace Att
open PySem PySem.W PySem.Calls PyProof.Rows
variable {l:OpenLaw} {n:Nat}
theorem gk {P:Params} {h:Heap}:∀(ns:List Int) (vs:List Value),WellAll P h vs (ns.map WData.int)->IntsAre vs ns:=by
 intro ns;induction ns with
 | nil=>
  intro vs w;rw [List.map_nil] at w
  cases w;exact .nil
 | cons n ns ih=>
  intro vs w;rw [map_cons] at w
  cases w with
  | cons a b=>
   cases a;exact .cons _ _ (ih _ b)
theorem pA (hn:l.most=some n) {P:Params} {h:Heap} {args:List WData} {vals:List Value}
  (hpre:l.row.toRowW.claim.pre args=true) (hwl:WellAll P h vals args) :
  ∃a vs ns,vals=[Value.ref a]/\args=[WData.list (ns.map WData.int)]/\h.get? a=some { cls:=.type "list",data:=.seq vs.toArray }/\IntsAre vs ns/\ns.length<=n:=by
 have hsh:WShape.hasAll [] args [.list .int]=true:=(pre_splitW hpre).1
 have hc:l.pre.holds [] { args:=args }=true:=(pre_splitW hpre).2
 obtain ⟨d,r,rfl,h1,h2⟩:=hasAllW_cons hsh;obtain rfl:=hasAllW_nil h2
 obtain ⟨xs,rfl,h3⟩:=hasW_list h1;obtain ⟨ns,rfl⟩:=items_int h3;have hlen:ns.length<=n:=by
  unfold OpenLaw.pre at hc;have h4:(WTm.not (.lt (.lit (.int (n:Int))) (.len (.arg 0)))).holds [] { args:=[.list (ns.map .int)] }=true:=by
   have h4:=(holds_andW hc).1
   rw [hn] at h4;exact h4
  have h5:=condW_of h4 (w_not (w_lt w_lit (w_len_list (w_arg rfl))))
  rw [length_map] at h5;refine Nat.le_of_not_lt fun q=>?_
  have q':(n:Int)<((ns.length:Nat):Int):=by omega
  first
   | (rw [decide_eq_true q'] at h5;exact absurd h5 (by decide))
   | (simp at h5;omega)
 cases hwl with
 | cons w1 w2=>
  cases w2
  cases w1 with
  | list ho hall=>exact ⟨_,_,ns,rfl,rfl,ho,gk ns _ hall,hlen⟩
theorem pP (l:OpenLaw) (args:List WData):l.row.toRowW.claim.post args (.bool true) args=true:=
 postW_of (r:=l.row.toRowW) (X:=(true==true))
  (show WShape.has [] (.bool true) .bool=true by first | rfl | decide | simp [WShape.has,WShape.arms,WShape.armsAll])
  (show (WTm.eq .res (.lit (.bool true))).value [] { args:=args,res:=some (.bool true),after:=args }=some (.bool (true==true)) from w_eq_bool (w_res rfl) w_lit) rfl
theorem attach_call {q:Program} {loose:List Str} {XP:(Str->Option Value)->Heap->Prop} {YP:World->Heap->Prop} {d:DefRec}
  (hn:l.most=some n) (hdf:d.params.defaults=[])
  (call:∀(w:World) (s₀ s₁:Shared) (mg mb:Str->Option Value) (fa:Addr) (o:Obj) (pm cd doc:Value) (a:Addr) (vs:List Value) (ns:List Int),
   Ground q loose [] XP w s₀ mg mb s₁.heap->YP w s₁.heap ->
   s₁.heap.get? fa=some o->o.data=.func (docDef d.name d.params d.body d.scope pm cd doc)->s₁.heap.CodeRec cd d.name->mg d.name=some (.ref fa) ->
   s₁.heap.get? a=some { cls:=.type "list",data:=.seq vs.toArray }->IntsAre vs ns->ns.length<=n->s₁.gens=#[] ->
   codeAny (model l.prog w) callerA (.call (.ref fa) ⟨[.ref a],[]⟩) (fun r s'=>r=.ok (.ret (.bool true))/\OldK s₁.heap s'.heap/\s'.os=s₁.os/\AllBare s'.gens) s₁) :
  WalkO q loose XP YP l.row.toRowW d [] (fun f vs=>PySem.call f vs):=by
 intro w s₀ s₁ mg mb G Y fa o pm cd doc dV kV ho hd hcd hD hmg hg args vals as hpre hlay hrd hwl hlo;obtain rfl:dV=.none:=Dflts.none hD hdf
 obtain rfl:kV=.none:=Dflts.noKw hD
 obtain ⟨a,vs,ns,rfl,rfl,hobj,hints,hlen⟩:=pA hn hpre hwl;refine enter_call (codeAny_mono (call w s₀ s₁ mg mb fa o pm cd doc a vs ns G Y ho (fd_plain hd) hcd hmg hobj hints hlen hg) fun r s' hq=>?_)
 obtain ⟨rfl,h2,h3,h4⟩:=hq;exact ⟨.inl ⟨.bool true,.bool true,[],rfl,fun _=>rfl,.bool true,pP l _,fun _=>⟨List.Pairwise.nil,fun _ hm=>(nomatch hm)⟩⟩,h2,h3,h4⟩
end Att
namespace L2
open PySem PySem.Spec PyProof.Rows
variable {a:Addr} {fd:FuncData} {x qual:Str} {n:Nat} {X:Cx} {ps:List Str} {A B:Prop} {H':Hp} {scope:Scope} {env:Env} {U:St}
theorem iK:∀{vs:List Value} {ns:List Int},IntsAre vs ns->Vals (ns.map V.int) vs
 | _,_,.nil=>.nil
 | _,_,.cons n t h=>.cons ⟨t,rfl⟩ (iK h)
def Bi (H:Hp):Prop:=∀b,H b=none\/∃o xs,H b=some (.frz o (.lst xs))
theorem tO {P:Program} {w:World} {K:Fg} {mg mb:Str->Option Value} {CX:vg} {k:Nat} {fa:Addr} {sp:Sp} {s₁:Shared} {vs:List Value} {ns:List Int}
  (KX:K.In s₁.heap) (hns:s₁.heap.Ns mainGlobals mg) (hb:s₁.heap.Ns builtinsNs mb) (hbb:∀x:Str,x ≠ "__name__"->mb x=bootBuiltins x) (hlim:s₁.heap.NoLimit) (hg:s₁.gens=#[])
  (ha:s₁.heap.get? a=some { cls:=.type "list",data:=.seq vs.toArray }) (hi:IntsAre vs ns) (hl:ns.length<=sizeLine) (hr:Room k callerA)
  (F:∀base:Heap,K.In base->base.Ns mainGlobals mg->bT P w K mg base CX k fa fd [x] sp) (hbind:∀(s:Shared) (u:Value),BindsTo s fd ⟨[u],[]⟩ [(x,u)])
  (hsp:∀H:Hp,Bi H->SqL K H a (ns.map V.int)->sp [.ref a] H (fun v _=>v=.bl true) fun _ _ _=>False)
  (hCX:∀H e s',CX [] H s₁ (fun _ _ _=>False) e s'->False) :
  codeAny (model P w) callerA (.call (.ref fa) ⟨[.ref a],[]⟩) (fun r s'=>r=.ok (.ret (.bool true))/\OldK s₁.heap s'.heap/\s'.os=s₁.os/\AllBare s'.gens) s₁:=by
 have rv:=iK hi
 have lenV:=hi.length
 have core:∀H:Hp,Bi H->SqL K H a (ns.map V.int)->HOk P w H s₁.heap->(∀b,H b≠none->b=a)->(H a≠none->K.lookup a=none) ->
   codeAny (model P w) callerA (.call (.ref fa) ⟨[.ref a],[]⟩) (fun r s'=>r=.ok (.ret (.bool true))/\OldK s₁.heap s'.heap/\s'.os=s₁.os/\AllBare s'.gens) s₁:=by
  intro H hO hS hok hA hK;have base_of:∀{b:Addr} {o:Obj},s₁.heap.get? b=some o->H b=none->(jD s₁.heap H).get? b=some o:=fun e n=>t5 e n
  have noA:∀{b:Addr} {o:Obj} {es:Array DictEntry} {ep:Nat},s₁.heap.get? b=some o->o.data=.dict es ep->H b=none:=fun {b o es ep} e d=>by
   cases q:H b with
   | none=>rfl
   | some u=>
    have e':b=a:=hA b (by rw [q];simp)
    subst e'
    rw [ha] at e;cases e;have d':Data.seq vs.toArray _=Data.dict es ep:=d
    cases d'
  have nsK:∀{b:Addr} {m:Str->Option Value},s₁.heap.Ns b m->(jD s₁.heap H).Ns b m:=fun {b m} ⟨o,es,ep,e,d,r⟩=>⟨o,es,ep,base_of e (noA e d),d,r⟩
  have hKb:K.In (jD s₁.heap H):=fun b o e=>base_of (KX b o e) (by
   cases q:H b with
   | none=>rfl
   | some u=>
    have e':b=a:=hA b (by rw [q];simp)
    subst e'
    rw [hK (by rw [q];simp)] at e;cases e)
  have hM:Mod K mg (jD s₁.heap H):=⟨hKb,nsK hns,⟨mb,nsK hb,hbb⟩,let ⟨mc,h1,h2⟩:=hlim;⟨mc,nsK h1,h2⟩⟩
  have e0:xC P w K mg (jD s₁.heap H) callerA [] s₁ H:=⟨rfl,hM,fun b o e=>wx e,Nat.le_of_eq (qe _ _),trivial,fun b hb=>absurd (show b∈([]:List Addr) from hb) (by simp),hok,.of_eq hg⟩
  refine codeAny_mono ((F _ hKb (nsK hns)).run callerA [] s₁ H ⟨[.ref a],[]⟩ [.ref a] [.ref a] _ _ hr e0 (hbind s₁ (.ref a)) (.cons rfl .nil) (hsp H hO hS)) fun r s' h=>?_
  cases r with
  | error e=>exact (hCX H e s' h).elim
  | ok fl=>
   cases fl with
   | next=>exact False.elim h
   | brk=>exact False.elim h
   | cont=>exact False.elim h
   | ret u=>
    obtain ⟨v,H',os,bare,un,hok',r',q⟩:=h;have q':v=.bl true:=q
    subst q'
    obtain rfl:u=Value.bool true:=r'
    refine ⟨rfl,OldK.of_keep fun b o e=>?_,os,bare⟩
    cases q:H b with
    | none=>exact un.keep b o e q (by intro z;exact absurd (show b∈([]:List Addr) from z) (by simp)) (by simp)
    | some u=>
     rcases hO b with z | ⟨ob,xs,z⟩
     ·rw [q] at z;cases z
     ·have z2:=un.frzs b ob _ z
      obtain ⟨e1,_⟩:=hok b _ z;obtain ⟨e2,_⟩:=hok' b _ z2
      rw [e] at e1;cases e1;exact e2
 cases hk:K.lookup a with
 | some o=>
  have e:=KX a o hk
  rw [ha] at e
  cases e;refine core (fun _=>none) (fun _=>.inl rfl) (.inr ⟨_,vs.toArray,_,hk,rfl,rfl,rfl,by rw [size_toArray,lenV];exact hl,by simpa using rv⟩) (fun b u z=>by have z':(none:Option HO)=some u:=z;cases z') (fun b z=>absurd rfl z) fun z=>absurd rfl z
 | none=>
  refine core (fun b=>if b=a then some (.frz { cls:=.type "list",data:=.seq vs.toArray } (.lst (ns.map V.int))) else none) (fun b=>?_) (.inl (.inr ⟨{ cls:=.type "list",data:=.seq vs.toArray },if_pos rfl⟩)) (fun b u z=>?_) (fun b z=>?_) fun _=>hk
  ·by_cases hb:b=a
   ·exact .inr ⟨_,_,if_pos hb⟩
   ·exact .inl (if_neg hb)
  ·by_cases hb:b=a
   ·have z':=(if_pos hb).symm.trans z
    cases z'
    subst hb;exact ⟨ha,by rw [length_map];exact hl,vs,_,rv,ha⟩
   ·have z':=(if_neg hb).symm.trans z
    cases z'
  ·by_cases hb:b=a
   ·exact hb
   ·exact absurd (if_neg hb) z
theorem walk_of {l:PySem.W.OpenLaw} {k:Nat} {q:Program} {loose:List Str} {XP:(Str->Option Value)->Heap->Prop} {YP:World->Heap->Prop} {d:DefRec} {K:Params->Fg} {CX:World->vg} {sp:World->Sp}
  (hn:l.most=some n) (hn2:n<=sizeLine) (hdf:d.params.defaults=[]) (hr:Room k callerA)
  (hY:∀(w:World) (h:Heap),YP w h->(K w.params).In h)
  (F:∀(w:World) (mg:Str->Option Value) (fa:Addr) (h:Heap),(K w.params).In h->h.Ns mainGlobals mg->mg d.name=some (.ref fa) ->
   ∃fd:FuncData,(∀(s:Shared) (u:Value),BindsTo s fd ⟨[u],[]⟩ [(x,u)]) /\
    ∀base:Heap,(K w.params).In base->base.Ns mainGlobals mg->bT l.prog w (K w.params) mg base (CX w) k fa fd [x] (sp w))
  (hsp:∀(w:World) (H:Hp) (a:Addr) (ns:List Int),ns.length<=n->Bi H->SqL (K w.params) H a (ns.map V.int)->sp w [.ref a] H (fun v _=>v=.bl true) fun _ _ _=>False)
  (hCX:∀(w:World) (H:Hp) (s:Shared) (e:Value) (s':Shared),CX w [] H s (fun _ _ _=>False) e s'->False) :
  PySem.W.WalkO q loose XP YP l.row.toRowW d [] (fun f vs=>PySem.call f vs):=by
 refine Att.attach_call hn hdf fun w s₀ s₁ mg mb fa o pm cd doc a vs ns G Y ho hd hcd hmg hobj hints hlen hg=>?_
 have KX:=hY w _ Y
 obtain ⟨fd,hb,hF⟩:=F w mg fa _ KX G.T.g hmg;exact tO KX G.T.g G.T.b G.T.builtins G.T.nolimit hg hobj hints (Nat.le_trans hlen hn2) hr hF hb (fun H hO hS=>hsp w H a ns hlen hO hS) fun H e s'=>hCX w H s₁ e s'
def yS (s:Stmt):Arguments:=match s with
 | .FunctionDef _ a _ _ _ _ _ _ _ _=>a
 | _=>{ posonlyargs:=[],args:=[],vararg:=none,kwonlyargs:=[],kw_defaults:=[],kwarg:=none,defaults:=[] }
def fG (s:Stmt):List Stmt:=match s with
 | .FunctionDef _ _ b _ _ _ _ _ _ _=>b
 | _=>[]
def cf (s:Stmt):Scope:=match s with
 | .FunctionDef _ _ _ _ _ _ sc _ _ _=>sc
 | _=>{ kind:=.function,names:=[],isGenerator:=false,isCoroutine:=false }
abbrev eG:vg:=fun _ _ _ _ _ _=>False
abbrev E0:XK:=fun _ _ _=>False
theorem om:Gd eG X E0:=fun _ _ _ _ _ _ _ h=>h.elim
structure Fun (K:Fg) (x qual:Str) (st:Stmt) (f:Addr) (fd:FuncData):Prop where
 ex:∃(oc:Value) (od:Option Addr) (kV doc pm:Value) (an:Option Addr) (cdv ct:Value) (osl:Array (Option Value)),
  fd=PySem.W.fnOf x qual (yS st) (fG st) (cf st) .none kV doc pm an cdv ct/\K.lookup f=some ⟨oc,od,.func fd,osl⟩/\PySem.W.codeIn K cdv qual=true
 kp:PySem.W.keepIn K (.ref f)=true
section
variable {P:Program} {w:World} {K:Fg} {mg:Str->Option Value} {base:Heap}
theorem Fun.ok {st:Stmt} {f:Addr} {N:List Str} {k:Nat} {sp:Sp} (F:Fun K x qual st f fd) (S:aR N ps (cf st)) (len:∀vs H Q E,sp vs H Q E->vs.length=ps.length)
  (hbody:∀(cdv:Value) (A:Around) (outer:List Env) (s:Shared) (H:Hp) (vs:List V) (Q:VK) (E:XK),Room k (A.deeper (envOfC qual (cf st) s.heap.objs.size f cdv))->sp vs H Q E ->
   ∃t,PSs (jL eG P w K mg base N qual (cf st) f cdv A outer s H E).nox (fG st) t/\t { nx:=fun _ H'=>Q .non H',rt:=Q } (start N vs) H):bT P w K mg base eG (k+1) f fd ps sp:=by
 obtain ⟨oc,od,kV,doc,pm,an,cdv,ct,osl,rfl,lk,hcd⟩:=F.ex;refine DP lk hcd S len fun A outer s H vs Q E hr hsp=>?_
 obtain ⟨t,h,q⟩:=hbody cdv A outer s H vs Q E hr hsp;exact ⟨t,h.nox,q⟩
theorem Fun.binds {st:Stmt} {f:Addr} (F:Fun K x qual st f fd)
  (h:∀(kV doc pm:Value) (an:Option Addr) (cdv ct:Value) (us:List Value),us.length=ps.length->bindArgs (PySem.W.fnOf x qual (yS st) (fG st) (cf st) .none kV doc pm an cdv ct) ⟨us,[]⟩=pure (ps.zip us)):Binds K fd ps []:=by
 obtain ⟨oc,od,kV,doc,pm,an,cdv,ct,osl,rfl,lk,hcd⟩:=F.ex;exact .all (h kV doc pm an cdv ct)
theorem ue {st:Stmt} {f:Addr} {oc:Value} {od an:Option Addr} {osl:Array (Option Value)} {kV doc pm cdv ct:Value} (l:K.lookup f=some ⟨oc,od,.func (PySem.W.fnOf x qual (yS st) (fG st) (cf st) .none kV doc pm an cdv ct),osl⟩)
  (c:PySem.W.codeIn K cdv qual=true) (k:PySem.W.keepIn K (.ref f)=true):Fun K x qual st f (PySem.W.fnOf x qual (yS st) (fG st) (cf st) .none kV doc pm an cdv ct):=⟨⟨oc,od,kV,doc,pm,an,cdv,ct,osl,rfl,l,c⟩,k⟩
end
theorem pw (h:n<=1000):n<sizeLine:=Nat.lt_of_le_of_lt h (by decide)
theorem cn (h:B):if false=true then A else B:=by
 rw [if_neg Bool.false_ne_true];exact h
theorem ck (h:A):if true=true then A else B:=by
 rw [if_pos rfl];exact h
def Same (H H':Hp):Prop:=∀b o,H b=some o->H' b=some o
theorem Same.refl (H:Hp):Same H H:=fun _ _ h=>h
theorem Same.trans {H H1 H2:Hp} (a:Same H H1) (b:Same H1 H2):Same H H2:=fun c o h=>b c o (a c o h)
theorem Same.free {H:Hp} (e:Same H H') {l:Addr} (h:H' l=Option.none):H l=Option.none:=by
 cases q:H l with
 | none=>rfl
 | some o=>
  rw [e l o q] at h
  cases h
theorem Same.seq {K:Fg} {H:Hp} {xs:List V} (e:Same H H') (h:SqL K H a xs):SqL K H' a xs:=by
 rcases h with (h | ⟨o,h⟩) | h
 ·exact .inl (.inl (e _ _ h))
 ·exact .inl (.inr ⟨o,e _ _ h⟩)
 ·exact .inr h
section
variable {prog:Program} {w:World} {A:Around} {R:Result->Shared->Prop} {s:Shared}
abbrev xB:Value->Shared->Prop:=fun _ _=>False
theorem jM {elt target iter:Expr} {ifs:List Expr} {pos:Pos} {it acc:Value} (I:Nat->Shared->Prop)
  (turn:∀n s,I n s->wpAny (model prog w) A (pyNext it) (fun r s₁=>match r with
   | none=>R (.ok .next) s₁
   | some v=>wpAny (model prog w) A (letOwnedTupleGo target it v) (fun _ s₁'=>wpAny (model prog w) A (assign target env v) (fun _ s₂=>
     wpAny (model prog w) A (forIn ifs true fun c r=>if r=true then do let ok <-isTrue c env (eval c env);pure (ForInStep.yield ok) else pure (ForInStep.yield r)) (fun ok s₃=>
      if ok=true then wpAny (model prog w) A (eval elt env) (fun x s₄=>
       wpAny (model prog w) A (call (.builtin "list.append") [acc,x]) (fun _ s₅=>∃m,m<n/\I m s₅) xB s₄) xB s₃
      else ∃m,m<n/\I m s₃) xB s₂) xB s₁') xB s₁) xB s)
  (n:Nat) (h:I n s) :
  codeAny (model prog w) A (.compLoop (.ListComp elt [⟨target,iter,ifs,0⟩] scope pos) 0 it acc env) R s:=by
 refine codeAny_loop rfl I (fun n s hI=>?_) n h
 show wpAny _ A ((compTurn (.ListComp elt [⟨target,iter,ifs,0⟩] scope pos) 0 it acc env).onRaise (fun x=>do noteFrame x env;theTreesLotGoes x)) _ _ s
 refine wpAny_noted ?_
 rw [compTurn_list];have F:∀{Z:Value->Shared->Prop},∀(e:Value) (s:Shared),xB e s->Z e s:=fun _ _ x=>x.elim
 refine Kx (wpAny_standAt (Kx (wpAny_mono (turn n s hI) (fun r s₁ h₁=>?_) F)))
 cases r with
 | none=>exact Ky h₁
 | some v=>
  refine Kx (wpAny_mono h₁ (fun _ s₁' h₁'=>?_) F)
  refine Kx (wpAny_mono h₁' (fun _ s₂ h₂=>Kx (wpAny_mono h₂ (fun ok s₃ h₃=>?_) F)) F)
  cases ok with
  | false=>exact Ky ⟨rfl,h₃⟩
  | true=>
   exact Kx (Kx (wpAny_mono h₃ (fun x s₄ h₄=>Kx (wpAny_mono h₄ (fun _ s₅ h₅=>Ky (Ky ⟨rfl,h₅⟩)) F)) F))
end
def cw (env:Env):List (Str×NameKind)->List (Str×Addr)->List (Str×Addr)
 | [],acc=>acc
 | (n,k)::r,acc=>if k==.free then cw env r ((n,(env.cells.lookup n).getD 0)::acc) else cw env r acc
theorem Hq {env:Env}:∀(names:List (Str×NameKind)) (acc:List (Str×Addr)),(∀n,(n,NameKind.free)∈names->∃c,env.cells.lookup n=some c) ->
  (forIn names acc fun (x:Str×NameKind) (cs:List (Str×Addr))=>(match x with | (name,kind)=>if kind==.free then (do let a <-cellOf env name;pure (ForInStep.yield ((name,a)::cs))) else pure (ForInStep.yield cs):Sem (ForInStep (List (Str×Addr)))))=(pure (cw env names acc):Sem (List (Str×Addr)))
 | [],acc,_=>by rw [List.forIn_nil];rfl
 | (n,k)::r,acc,h=>by
  rw [List.forIn_cons];unfold cw;by_cases hk:(k==.free)=true
  ·simp only [hk,if_true]
   have hk':k=.free:=by simpa using hk
   obtain ⟨c,hc⟩:=h n (by rw [hk'];exact mem_cons_self)
   have e:cellOf env n=pure c:=by unfold cellOf;rw [hc]
   rw [e,hc];exact Hq r ((n,c)::acc) fun n' hn=>h n' (Ku _ hn)
  ·rw [if_neg hk]
   simp only [hk]
   exact Hq r acc fun n' hn=>h n' (Ku _ hn)
theorem fq (h:∀n,(n,NameKind.free)∈scope.names->∃c,env.cells.lookup n=some c):closureFor scope env=pure (cw env scope.names []):=by
 have:=Hq (env:=env) scope.names [] h
 unfold closureFor;rw [show (pure (cw env scope.names []):Sem (List (Str×Addr)))=(pure (cw env scope.names []) >>= fun x=>pure x) from rfl,<-this]
theorem Hv {env:Env} {x:Str} {c:Addr}:∀{names:List (Str×NameKind)} {acc:List (Str×Addr)},(∀n,(n,NameKind.free)∈names->∃c,env.cells.lookup n=some c)->(cw env names acc).lookup x=some c->env.cells.lookup x=some c\/acc.lookup x=some c
 | [],_,_,e=>.inr e
 | (n,k)::r,acc,h,e=>by
  unfold cw at e;have h':∀n',(n',NameKind.free)∈r->∃c,env.cells.lookup n'=some c:=fun n' hn=>h n' (Ku _ hn)
  by_cases hk:(k==.free)=true
  ·rw [if_pos hk] at e
   rcases Hv h' e with q | q
   ·exact .inl q
   ·rw [lookup_cons] at q
    have hk':k=.free:=by simpa using hk
    obtain ⟨c',hc⟩:=h n (by rw [hk'];exact mem_cons_self)
    cases hx:x==n with
    | true=>
     rw [hx,hc] at q
     cases q;rw [eq_of_beq hx];exact .inl hc
    | false=>
     rw [hx] at q;exact .inr q
  ·rw [if_neg hk] at e
   exact Hv h' e
theorem BM {env:Env} {x:Str}:∀{names:List (Str×NameKind)} {acc:List (Str×Addr)},(x,NameKind.free)∈names\/(acc.lookup x).isSome=true->((cw env names acc).lookup x).isSome=true
 | [],_,h=>h.elim nofun id
 | (n,k)::r,acc,h=>by
  unfold cw;by_cases hk:(k==.free)=true
  ·rw [if_pos hk]
   refine BM (names:=r) ?_
   rcases h with h | h
   ·rcases Kr h with e | h
    ·cases e
     exact .inr (by rw [lookup_cons];simp)
    ·exact .inl h
   ·right
    rw [lookup_cons]
    cases hx:x==n with
    | true=>rfl
    | false=>exact h
  ·rw [if_neg hk]
   refine BM (names:=r) ?_
   rcases h with h | h
   ·rcases Kr h with e | h
    ·cases e
     exact absurd rfl hk
    ·exact .inl h
   ·exact .inr h
theorem Cf {x:Str} {c:Addr}:∀{names:List (Str×NameKind)} {n:Nat} {acc:List (Str×Addr)},(cellsFrom n names acc).lookup x=some c->((x,NameKind.cell)∈names/\n<=c)\/acc.lookup x=some c
 | [],_,_,e=>.inr e
 | (y,k)::r,n,acc,e=>by
  unfold cellsFrom at e;by_cases hk:(k==.cell)=true
  ·rw [if_pos hk] at e
   have hk':k=.cell:=by simpa using hk
   rcases Cf e with ⟨q,l⟩ | q
   ·exact .inl ⟨Ku _ q,by omega⟩
   ·rw [lookup_cons] at q
    cases hx:x==y with
    | true=>
     rw [hx] at q
     cases q;exact .inl ⟨by rw [eq_of_beq hx,hk'];exact mem_cons_self,KA _⟩
    | false=>
     rw [hx] at q;exact .inr q
  ·rw [if_neg hk] at e
   rcases Cf e with ⟨q,l⟩ | q
   ·exact .inl ⟨Ku _ q,l⟩
   ·exact .inr q
theorem HC {x y:Str} {c:Addr}:∀{names:List (Str×NameKind)} {n:Nat} {acc:List (Str×Addr)},(∀z d,acc.lookup z=some d->d<n)->(∀x y d,acc.lookup x=some d->acc.lookup y=some d->x=y) ->
  (cellsFrom n names acc).lookup x=some c->(cellsFrom n names acc).lookup y=some c->x=y
 | [],_,_,_,hi,e,e'=>hi _ _ _ e e'
 | (z,k)::r,n,acc,hl,hi,e,e'=>by
  unfold cellsFrom at e e'
  by_cases hk:(k==.cell)=true
  ·rw [if_pos hk] at e e'
   refine HC (names:=r) (n:=n+1) (acc:=(z,n)::acc) (fun a d q=>?_) (fun a b d q q'=>?_) e e'
   ·rw [lookup_cons] at q
    cases hx:a==z with
    | true=>rw [hx] at q;cases q;exact Nat.lt_succ_self _
    | false=>rw [hx] at q;exact Nat.lt_succ_of_lt (hl a d q)
   ·rw [lookup_cons] at q q'
    cases hx:a==z with
    | true=>
     rw [hx] at q
     cases q
     cases hy:b==z with
     | true=>rw [eq_of_beq hx,eq_of_beq hy]
     | false=>rw [hy] at q';exact absurd (hl b n q') (Nat.lt_irrefl _)
    | false=>
     rw [hx] at q
     cases hy:b==z with
     | true=>rw [hy] at q';cases q';exact absurd (hl a n q) (Nat.lt_irrefl _)
     | false=>rw [hy] at q';exact hi a b d q q'
  ·rw [if_neg hk] at e e'
   exact HC hl hi e e'
theorem Hr {env:Env} {x:Str} {c:Addr}:∀{names:List (Str×NameKind)} {acc:List (Str×Addr)},(cw env names acc).lookup x=some c->(x,NameKind.free)∈names\/acc.lookup x=some c
 | [],_,e=>.inr e
 | (n,k)::r,acc,e=>by
  unfold cw at e;by_cases hk:(k==.free)=true
  ·rw [if_pos hk] at e
   have hk':k=.free:=by simpa using hk
   rcases Hr e with q | q
   ·exact .inl (Ku _ q)
   ·rw [lookup_cons] at q
    cases hx:x==n with
    | true=>rw [eq_of_beq hx,hk'];exact .inl mem_cons_self
    | false=>rw [hx] at q;exact .inr q
  ·rw [if_neg hk] at e
   rcases Hr e with q | q
   ·exact .inl (Ku _ q)
   ·exact .inr q
theorem Fw {x:Str}:∀{names:List (Str×NameKind)} {n:Nat} {acc:List (Str×Addr)},(x,NameKind.cell)∈names\/(acc.lookup x).isSome=true->((cellsFrom n names acc).lookup x).isSome=true
 | [],_,_,h=>h.elim nofun id
 | (y,k)::r,n,acc,h=>by
  unfold cellsFrom;by_cases hk:(k==.cell)=true
  ·rw [if_pos hk]
   refine Fw (names:=r) ?_
   rcases h with h | h
   ·rcases Kr h with e | h
    ·cases e
     exact .inr (by rw [lookup_cons];simp)
    ·exact .inl h
   ·right
    rw [lookup_cons]
    cases hx:x==y with
    | true=>rfl
    | false=>exact h
  ·rw [if_neg hk]
   refine Fw (names:=r) ?_
   rcases h with h | h
   ·rcases Kr h with e | h
    ·cases e
     exact absurd rfl hk
    ·exact .inl h
   ·exact .inr h
theorem FE {x:Str}:∀{names:List (Str×NameKind)} {n:Nat} {acc:List (Str×Addr)},(x,NameKind.cell)∉names->(cellsFrom n names acc).lookup x=acc.lookup x
 | [],_,_,_=>rfl
 | (y,k)::r,n,acc,h=>by
  unfold cellsFrom;have hr:(x,NameKind.cell)∉r:=fun z=>h (Ku _ z)
  by_cases hk:(k==.cell)=true
  ·rw [if_pos hk,FE hr,lookup_cons]
   have hk':k=.cell:=by simpa using hk
   cases hx:x==y with
   | true=>exact absurd (by rw [eq_of_beq hx,hk'];exact mem_cons_self) h
   | false=>rfl
  ·rw [if_neg hk]
   exact FE hr
theorem Fy {x:Str} {c:Addr}:∀{names:List (Str×NameKind)} {n:Nat} {acc:List (Str×Addr)},(x,NameKind.cell)∈names->(cellsFrom n names acc).lookup x=some c->(cellsFrom n names []).lookup x=some c
 | [],_,_,h,_=>nomatch h
 | (y,k)::r,n,acc,h,e=>by
  unfold cellsFrom at e ⊢
  by_cases hk:(k==.cell)=true
  ·rw [if_pos hk] at e ⊢
   by_cases hr:(x,NameKind.cell)∈r
   ·have:∀{acc acc':List (Str×Addr)},(cellsFrom (n+1) r acc).lookup x=some c->(cellsFrom (n+1) r acc').lookup x=some c:=fun {a a'} q=>by
     have q0:=Fy hr q
     have hs:=Fw (n:=n+1) (acc:=a') (.inl hr)
     obtain ⟨c',hc'⟩:=Option.isSome_iff_exists.mp hs;have q1:=Fy hr hc'
     rw [q0] at q1
     cases q1;exact hc'
    exact this e
   ·rw [FE hr] at e ⊢
    rw [lookup_cons] at e ⊢
    cases hx:x==y with
    | true=>rw [hx] at e;exact e
    | false=>
     rcases Kr h with z | z
     ·cases z
      simp at hx
     ·exact absurd z hr
  ·rw [if_neg hk] at e ⊢
   rcases Kr h with z | z
   ·cases z
    exact absurd rfl hk
   ·exact Fy z e
def blk (X:Cx) (scope:Scope) (cells:List (Str×Addr)) (C:Addr) (s₀:Shared) (H₀:Hp) (ex:List Addr):Cx where
 prog:=X.prog
 w:=X.w
 K:=X.K
 mg:=X.mg
 base:=X.base
 A:=X.A
 N:=X.N
 s₀:=s₀
 H₀:=H₀
 env:={ scope:=relabel scope X.env,locals:=C,globals:=X.env.globals,cells:=cells,qual:=X.env.qual,func:=none,code:=X.env.code,frame:=X.env.frame,builtins:=X.env.builtins }
 outer:=X.stack
 stack:=X.stack
 ex:=ex
 fn:=fun x=>scope.names.any fun y=>y.1==x&&y.2==.cell
 calm:=X.calm
 pn:=[]
 xe:=fun _ _=>False
structure cZ (N:List Str) (is:List Nat) (osc scope:Scope):Prop where
 kind:scope.kind=.function
 free:∀n,(n,NameKind.free)∈scope.names->osc.names.lookup n=some .cell\/osc.names.lookup n=some .free
 own:∀(i:Nat) (x:Str),N[i]?=some x->(x,NameKind.local)∈scope.names\/(x,NameKind.cell)∈scope.names->i∈is
 loc:∀x∈scope.names,x.2=.local->scope.names.lookup x.1=some .local
 one:∀n,(n,NameKind.free)∈scope.names->(n,NameKind.cell)∉scope.names
def aD (is:List Nat) (U:St):St:=U.mapIdx fun i v=>if i∈is then none else v
theorem xU (is:List Nat) (U:St):(aD is U).length=U.length:=by unfold aD;simp
theorem Cc {is:List Nat} {i:Nat} {v:V} (h:(aD is U)[i]?=some (some v)):i∉is/\U[i]?=some (some v):=by
 unfold aD at h;rw [List.getElem?_mapIdx] at h
 cases e:U[i]? with
 | none=>rw [e] at h;cases h
 | some o=>
  rw [e] at h;simp only [Option.map_some,Option.some.injEq] at h
  by_cases hi:i∈is
  ·rw [if_pos hi] at h;cases h
  ·rw [if_neg hi] at h;exact ⟨hi,by rw [h]⟩
def Ga (U0 U2:St):Prop:=U2.length=U0.length/\∀(i:Nat) v,U0[i]?=some (some v)->U2[i]?=some (some v)
theorem gW {k:NameKind} {l:List (Str×NameKind)} (h:l.lookup x=some k):(x,k)∈l:=PySem.mem_of_lookup h
theorem BK {k:NameKind} (h:(relabel scope env).names.lookup x=some k) :
  (x,k)∈scope.names\/((x,NameKind.free)∈scope.names/\k=.cell):=by
 have h:=gW h
 unfold relabel at h;obtain ⟨⟨n,k'⟩,hm,e⟩:=List.mem_map.mp h;dsimp only at e;by_cases hc:(k'==NameKind.free&&env.scope.kind==.function&&env.kindOf n==some .cell)=true
 ·rw [if_pos hc] at e
  cases e;have:k'=.free:=by
   simp only [Bool.and_eq_true,beq_iff_eq] at hc
   exact hc.1.1
  exact .inr ⟨this▸hm,rfl⟩
 ·rw [if_neg hc] at e
  cases e;exact .inl hm
def jl (X:Cx) (scope:Scope) (C:Addr):List (Str×Addr):=cellsFrom (C+1) scope.names (cw X.env scope.names [])
section
variable {X:Cx} {pins:List (Addr×Obj)} {U:St} {H:Hp} {s:Shared} {scope:Scope} {is:List Nat}
theorem Inv.freeCells (I:Inv X pins U H s) (S:cZ X.N is X.env.scope scope):∀n,(n,NameKind.free)∈scope.names->∃c,X.env.cells.lookup n=some c:=fun n hn=>
 I.ok.has n (S.free n hn)
theorem Inv.blkOld (I:Inv X pins U H s) (S:cZ X.N is X.env.scope scope) {c:Addr} (h:(cw X.env scope.names []).lookup x=some c):X.env.cells.lookup x=some c:=by
 rcases Hv (I.freeCells S) h with q | q
 ·exact q
 ·cases q
theorem Inv.block {fp:List Addr} {t':Nat} (I:Inv X pins U H s) (S:cZ X.N is X.env.scope scope) (hf:∀b∈fp,iG X pins H b) (hfs:∀b∈fp,b<s.heap.objs.size) :
  Inv (blk X scope (jl X scope (s.heap.objs.size+1)) (s.heap.objs.size+1) s H fp) [] (aD is U) (upd H s.heap.objs.size (.lst []))
   { s with heap:=pushCells ((s.heap.push { cls:=.type "list",data:=.seq ([]:List Value).toArray }).push { cls:=.type "dict",data:=.dict #[] }) scope.names,toks:=t' }:=by
 generalize hC:s.heap.objs.size+1=C
 have hDn:H s.heap.objs.size=none:=I.hok.fresh (KA _)
 have s1:(s.heap.push { cls:=.type "list",data:=.seq ([]:List Value).toArray }).objs.size=C:=by rw [Heap.size_push,hC]
 have kept:∀b o,s.heap.get? b=some o->(pushCells ((s.heap.push { cls:=.type "list",data:=.seq ([]:List Value).toArray }).push { cls:=.type "dict",data:=.dict #[] }) scope.names).get? b=some o:=
  fun b o e=>pushCells_keeps _ _ b o (Kz _ (Kz _ e))
 have cellsL:∀x c,(jl X scope C).lookup x=some c->((x,NameKind.cell)∈scope.names/\C+1<=c)\/X.env.cells.lookup x=some c:=fun x c e=>by
  rcases Cf e with q | q
  ·exact .inl q
  ·exact .inr (I.blkOld S q)
 have oldLt:∀x c,X.env.cells.lookup x=some c->c<s.heap.objs.size:=fun x c e=>by
  obtain ⟨v,q⟩:=I.cell x c e;exact q.lt
 have cok:CellsOk (pushCells ((s.heap.push { cls:=.type "list",data:=.seq ([]:List Value).toArray }).push { cls:=.type "dict",data:=.dict #[] }) scope.names) (C+1)
   (cellsFrom (C+1) scope.names []):=by
  have:=cellsFrom_ok scope.names ((s.heap.push { cls:=.type "list",data:=.seq ([]:List Value).toArray }).push { cls:=.type "dict",data:=.dict #[] }) (C+1) [] ⟨fun _ _ hm=>(nomatch hm),List.Pairwise.nil⟩ (by rw [Heap.size_push,s1];exact KA _)
  rw [Heap.size_push,s1] at this;exact this
 have lt1:∀{b:Nat},b<s.heap.objs.size->b≠C:=fun {b} h e=>by subst e;rw [<-hC] at h;exact absurd (Nat.lt_of_succ_lt h) (Nat.lt_irrefl _)
 have hDle:s.heap.objs.size<=C:=by rw [<-hC];exact Nat.le_succ _
 have cellAt:∀x c,(jl X scope C).lookup x=some c->(C<c/\(pushCells ((s.heap.push { cls:=.type "list",data:=.seq ([]:List Value).toArray }).push { cls:=.type "dict",data:=.dict #[] }) scope.names).IsCell c none)\/X.env.cells.lookup x=some c:=fun x c e=>by
  rcases cellsL x c e with ⟨q1,q2⟩ | q
  ·exact .inl ⟨q2,(cok.empty x c (PySem.mem_of_lookup (Fy q1 e))).1⟩
  ·exact .inr q
 refine ⟨⟨I.ok.mod,S.kind,I.ok.glob,I.ok.blt,hDle,?_,?_,?_,I.ok.hd,I.ok.frames,.inl rfl,?_,I.bs,Nat.le_trans I.ok.bsz I.sz,?_,?_,I.stack,I.stkFree⟩,rfl,I.bare,?_,?_,?_,?_,?_,fun p hp=>absurd (show p∈([]:List (Addr×Obj)) from hp) (by simp),?_,(xU _ _).trans I.len⟩
 ·-- inj
  intro x y c hx hy;refine HC (fun z d q=>?_) (fun a b d q q'=>I.ok.inj a b d (I.blkOld S q) (I.blkOld S q')) hx hy
  exact Nat.lt_succ_of_lt (Nat.lt_of_lt_of_le (oldLt z d (I.blkOld S q)) hDle)
 ·-- has
  intro x hx;have q:((jl X scope C).lookup x).isSome=true:=by
   refine Fw ?_
   have hx:(relabel scope X.env).names.lookup x=some .cell\/(relabel scope X.env).names.lookup x=some .free:=hx
   rcases hx with hx | hx
   ·rcases BK hx with z | ⟨z,_⟩
    ·exact .inl z
    ·exact .inr (BM (.inl z))
   ·rcases BK hx with z | ⟨z,_⟩
    ·exact .inr (BM (.inl z))
    ·exact .inr (BM (.inl z))
  exact Option.isSome_iff_exists.mp q
 ·-- cab
  intro x c hx e;have hx:(scope.names.any fun y=>y.1==x&&y.2==NameKind.cell)=true:=hx
  obtain ⟨y,hy,hz⟩:=List.any_eq_true.mp hx;simp only [Bool.and_eq_true,beq_iff_eq] at hz
  have hm:(x,NameKind.cell)∈scope.names:=by rw [<-hz.1,<-hz.2];exact hy
  rcases Cf e with ⟨_,q⟩ | q
  ·exact Nat.le_trans hDle (Nat.le_of_succ_le q)
  ·rcases Hr q with z | z
   ·exact absurd hm (S.one x z)
   ·cases z
 ·-- exf
  intro b hb;obtain ⟨f0,f1,f2,f3,f4,f5⟩:=hf b hb;refine ⟨lt1 (hfs b hb),fun x c e z=>?_⟩
  rcases cellsL x c e with ⟨_,q⟩ | q
  ·subst z
   exact absurd (Nat.lt_of_lt_of_le (hfs _ hb) hDle) (Nat.not_lt.mpr (Nat.le_of_succ_le q))
  ·exact f4 x c q z
 ·-- noex
  intro b o e hb;obtain ⟨f0,f1,f2,f3,f4,f5⟩:=hf b hb;rcases f3 with z | z
  ·exact I.ok.noex b o e z
  ·exact absurd (Nat.lt_of_lt_of_le (Heap.lt_size e) (Nat.le_trans I.ok.bsz z)) (Nat.lt_irrefl _)
 ·-- exfs
  intro b hb z;obtain ⟨f0,f1,f2,f3,f4,f5⟩:=hf b hb;rcases Kr (I.stkSub b z) with e | e
  ·exact f1 e
  ·exact f2 e
 ·-- base
  exact Un.laid kept (KA _) hDn
 ·-- loc
  refine ⟨fun _=>none,?_,fun i x v e1 e2 e3=>?_⟩
  ·have:=(Heap.Ns.new (s.heap.push { cls:=.type "list",data:=.seq ([]:List Value).toArray }) (.type "dict")).keeps (pushCells_keeps scope.names _)
   rw [s1] at this;exact this
  ·obtain ⟨hni,e2'⟩:=Cc e2
   obtain ⟨m,hn,hl⟩:=id I.loc;have hfree:(x,NameKind.free)∈scope.names:=by
    have e3:(relabel scope X.env).names.lookup x=some .local\/(relabel scope X.env).names.lookup x=some .cell\/(relabel scope X.env).names.lookup x=some .free:=e3
    rcases e3 with z | z | z
    ·rcases BK z with y | ⟨y,_⟩
     ·exact absurd (S.own i x e1 (.inl y)) hni
     ·exact y
    ·rcases BK z with y | ⟨y,_⟩
     ·exact absurd (S.own i x e1 (.inr y)) hni
     ·exact y
    ·rcases BK z with y | ⟨y,_⟩
     ·exact y
     ·exact y
   have hk:=S.free x hfree
   obtain ⟨u,r,l⟩:=hl i x v e1 e2' (.inr hk)
   refine ⟨u,r,?_⟩
   rcases l with ⟨k,_⟩ | ⟨k,c,e,z⟩
   ·have k:X.env.scope.names.lookup x=some .local:=k
    rcases hk with q | q<;>(rw [q] at k;cases k)
   ·refine .inr ⟨?_,c,?_,z.keeps kept⟩
    ·have e3:(relabel scope X.env).names.lookup x=some .local\/(relabel scope X.env).names.lookup x=some .cell\/(relabel scope X.env).names.lookup x=some .free:=e3
     rcases e3 with y | y | y
     ·rcases BK y with y' | ⟨_,y'⟩
      ·exact absurd (S.own i x e1 (.inl y')) hni
      ·cases y'
     ·exact .inl y
     ·exact .inr y
    ·have q:=BM (env:=X.env) (acc:=[]) (.inl hfree)
     obtain ⟨c',hc'⟩:=Option.isSome_iff_exists.mp q;have:=I.blkOld S hc'
     rw [e] at this
     cases this;show (jl X scope C).lookup x=some c
     unfold jl;rw [FE (S.one x hfree)];exact hc'
 ·-- cell
  intro x c e;rcases cellAt x c e with ⟨_,q⟩ | q
  ·exact ⟨_,q⟩
  ·obtain ⟨v,z⟩:=I.cell x c q
   exact ⟨v,z.keeps kept⟩
 ·-- free
  show upd H s.heap.objs.size (.lst []) C=none
  rw [bw (by rw [<-hC];exact Nat.ne_of_gt (Nat.lt_succ_self _))]
  exact I.hok.fresh hDle
 ·-- freeC
  intro x c e;show upd H s.heap.objs.size (.lst []) c=none
  rcases cellAt x c e with ⟨q,_⟩ | q
  ·have hc:s.heap.objs.size<c:=Nat.lt_of_le_of_lt hDle q
   rw [bw (Nat.ne_of_gt hc)];exact I.hok.fresh (Nat.le_of_lt hc)
  ·rw [bw (Nat.ne_of_lt (oldLt x c q))]
   exact I.freeC x c q
 ·-- hok
  exact I.hok.laid kept (KA _) ⟨Nat.zero_le _,[],0,.nil,pushCells_keeps _ _ _ _ (Kz _ (Heap.get?_push_size _ rfl))⟩
end
section
variable {M:Model} {A:Around} {E:Value->Shared->Prop} {s:Shared}
theorem ir {globals:Addr} {cl:List (Str×Addr)} {Q:Env->Shared->Prop}
  (hQ:Q (newEnv scope s.heap.objs.size globals (cellsFrom (s.heap.objs.size+1) scope.names cl) qual none .none (some env) builtinsNs) { s with heap:=pushCells (s.heap.push { cls:=.type "dict",data:=.dict #[] }) scope.names }) :
  wpAny M A (newFunctionEnv scope globals cl [] qual none .none (some env)) Q E s:=by
 simp only [newFunctionEnv,Option.isSome_some,if_true]
 refine Kx (wpAny_alloc ?_)
 refine Kx (wpAny_layCells _ (fun name kind cells=>by cases hkc:kind==NameKind.cell<;>simp [hkc]) _ _ _ _ ?_)
 rw [show ({ s with heap:=s.heap.push { cls:=.type "dict",data:=.dict #[] } }:Shared).heap.objs.size=s.heap.objs.size+1 from Heap.size_push ..]
 rw [List.forIn_nil];exact Kx (Ky (Ky hQ))
end
def PF (X:Cx) (ifs:List Expr) (t:TT):Prop:=
 ∀(pins:List (Addr×Obj)) (s:Shared) (U:St) (H:Hp) (Q:Bool->Hp->Prop),Inv X pins U H s->t U H Q ->
  wpAny (model X.prog X.w) X.A (forIn ifs true fun c r=>if r=true then do let ok <-isTrue c X.env (eval c X.env);pure (ForInStep.yield ok) else pure (ForInStep.yield r)) (TP X pins U Q) X.xe s
def b3:TT:=fun _ H Q=>Q true H
theorem By:PF X [] b3:=fun pins s U H Q I h=>wpAny_tests_nil ⟨H,I,h⟩
theorem sQ {c:Expr} {t:TT} (h:PT X c t):PF X [c] t:=fun pins s U H Q I q=>wpAny_tests_one (h pins s U H Q I q)
def bJ (is:List Nat) (wi:TI) (g:TG) (tc:TT) (te:TE):TE:=fun U H Q=>wi U H fun J H1=>∀D,H1 D=none->∃W:Nat->Nat->List V->Hp->Prop,(∃m,W 0 m [] (upd H1 D (.lst [])))/\∀k m ys H,W k m ys H ->
 H D=some (.lst ys)/\((J.stop k H/\Q (.ref D) H)\/(J.go k H/\ys.length<sizeLine/\∀x H',J.yld k H x H'->g x (aD is U) H' fun U2 H2=>Ga (aD is U) U2/\tc U2 H2 fun b H3=>
  if b=true then te U2 H3 fun v H4=>H4 D=some (.lst ys)/\∃m',m'<m/\W (k+1) m' (ys++[v]) (upd H4 D (.lst (ys++[v]))) else ∃m',m'<m/\W (k+1) m' ys H3))
section
variable {X:Cx} {scope:Scope} {is:List Nat} {tg iter elt:Expr} {ifs:List Expr} {wi:TI} {g:TG} {tc:TT} {te:TE} {pos:Pos}
theorem jc {pins:List (Addr×Obj)} {s:Shared} {H:Hp} {Q:VK} {RR:Value->Addr->Result->Shared->Prop} (S:cZ X.N is X.env.scope scope) (hcalm:X.calm=true) (hi:PI X tg iter wi)
  (hg:∀cells C s₀ H₀ ex,PG (blk X scope cells C s₀ H₀ ex) tg g) (hc:∀cells C s₀ H₀ ex,PF (blk X scope cells C s₀ H₀ ex) ifs tc) (he:∀cells C s₀ H₀ ex,PE (blk X scope cells C s₀ H₀ ex) elt te)
  (I:Inv X pins U H s) (h:bJ is wi g tc te U H Q)
  (hRR:∀D C s' H' m,Inv X pins U H' s'->s'.heap.Ns C m->Q (.ref D) H'->H' C=none->C≠X.env.locals->X.s₀.heap.objs.size<=C->(∀x c,X.env.cells.lookup x=some c->c≠C)->(∀p∈X.pn++pins,p.1≠C)->RR (.ref D) C (.ok .next) s') :
  wpAny (model X.prog X.w) X.A (eval iter X.env) (fun x s₁=>wpAny (model X.prog X.w) X.A (pyIter x) (fun it s₂=>wpAny (model X.prog X.w) X.A (newList []) (fun acc s₃=>
   wpAny (model X.prog X.w) X.A (newFunctionEnv scope X.env.globals (cw X.env scope.names []) [] X.env.qual none .none (some X.env)) (fun cenv s₄=>
    codeAny (model X.prog X.w) X.A (.compStart (.ListComp elt [⟨tg,iter,ifs,0⟩] scope pos) 0 it acc { cenv with scope:=relabel scope X.env }) (RR acc cenv.locals) s₄) X.xe s₃) X.xe s₂) X.xe s₁) X.xe s:=by
 refine bg (hi pins s U H _ I h) fun v s1 h1=>bg h1 fun itv s2 h2=>?_
 obtain ⟨it,fp,tn,J,H2,e,I2,T,st2,f2,hW⟩:=h2;subst e;obtain ⟨W,⟨m0,w0⟩,turn⟩:=hW s2.heap.objs.size (I2.hok.fresh (KA _));refine wpAny_newObj_type (ir ?_)
 have s1:(s2.heap.push { cls:=.type "list",dict:=none,data:=.seq ([]:List Value).toArray }).objs.size=s2.heap.objs.size+1:=by rw [Heap.size_push]
 dsimp only;rw [s1];have hfs:∀b∈fp,b<s2.heap.objs.size:=fun b hb=>by
  obtain ⟨o,e,_⟩:=T.obj 0 _ st2 b hb;exact Heap.lt_size e
 have I4:=I2.block (t':=s2.toks) S f2 hfs
 generalize hCC:s2.heap.objs.size+1=C at I4 ⊢
 have hDC:s2.heap.objs.size<C:=by rw [<-hCC];exact Nat.lt_succ_self _
 have Hg:=hg (jl X scope C) C s2 H2 fp
 have Hc:=hc (jl X scope C) C s2 H2 fp
 have He:=he (jl X scope C) C s2 H2 fp
 have Ha:=Cd (X:=blk X scope (jl X scope C) C s2 H2 fp)
 have hYcell:∀x c,(blk X scope (jl X scope C) C s2 H2 fp).env.cells.lookup x=some c->s2.heap.objs.size<=c\/X.env.cells.lookup x=some c:=fun x c e=>by
  have e:(cellsFrom (C+1) scope.names (cw X.env scope.names [])).lookup x=some c:=e
  rcases Cf e with ⟨_,q⟩ | q
  ·exact .inl (Nat.le_trans (Nat.le_of_lt hDC) (Nat.le_of_succ_le q))
  ·exact .inr (I2.blkOld S q)
 have FY:∀{H':Hp},(∀b∈fp,H' b=none)->∀b∈fp,iG (blk X scope (jl X scope C) C s2 H2 fp) [] H' b:=fun {H'} hn b hb=>by
  obtain ⟨f0,f1,f3,f4,f5,f6⟩:=f2 b hb;refine ⟨hn b hb,Nat.ne_of_lt (Nat.lt_trans (hfs b hb) hDC),fun z=>?_,.inl hb,fun x c e z=>?_,fun p hp=>absurd (show p∈([]:List (Addr×Obj)) from hp) (by simp)⟩
  ·rcases Kr (I2.stkSub b z) with e | e
   ·exact f1 e
   ·exact f3 e
  ·rcases hYcell x c e with q | q
   ·rw [z] at q
    exact absurd (Nat.lt_of_lt_of_le (hfs b hb) q) (Nat.lt_irrefl _)
   ·exact f5 x c q z
 have hCx:∀x c,X.env.cells.lookup x=some c->c≠C:=fun x c e z=>by
  obtain ⟨v,q⟩:=I2.cell x c e;have:=q.lt
  rw [z] at this;exact absurd (Nat.lt_trans this hDC) (Nat.lt_irrefl _)
 have hCp:∀p∈X.pn++pins,p.1≠C:=fun p hp z=>by
  have:=Heap.lt_size (I2.pin p hp).1
  rw [z] at this;exact absurd (Nat.lt_trans this hDC) (Nat.lt_irrefl _)
 have out:∀{U':St} {H':Hp} {s':Shared},Inv (blk X scope (jl X scope C) C s2 H2 fp) [] U' H' s'->Inv X pins U H' s':=fun {U' H' s'} J=>
  I2.call' (ch:=fp) J.os J.base J.hok J.bare fun b hb=>by
   obtain ⟨f0,f1,f3,f4,f5,f6⟩:=f2 b hb;exact ⟨f4,f1,f5,f6⟩
 have loop:∀s₃:Shared,s₃={ s2 with heap:=pushCells ((s2.heap.push { cls:=.type "list",data:=.seq ([]:List Value).toArray }).push { cls:=.type "dict",data:=.dict #[] }) scope.names } ->
   codeAny (model X.prog X.w) X.A (.compLoop (.ListComp elt [⟨tg,iter,ifs,0⟩] scope pos) 0 (.ref it) (.ref s2.heap.objs.size) (blk X scope (jl X scope C) C s2 H2 fp).env) (RR (.ref s2.heap.objs.size) C) s₃:=by
  rintro s₃ rfl
  refine jM (fun n s'=>∃k ys H',Inv (blk X scope (jl X scope C) C s2 H2 fp) [] (aD is U) H' s'/\tn k s'.heap/\(∀b∈fp,H' b=none)/\W k n ys H') ?_ m0
   ⟨0,[],_,I4,T.keep 0 _ _ st2 fun b _ o e=>pushCells_keeps _ _ b o (Kz _ (Kz _ e)),fun b hb=>by rw [bw (Nat.ne_of_lt (hfs b hb))];exact (f2 b hb).1,w0⟩
  rintro n s3 ⟨k,ys,H3,I3,st3,fr3,w3⟩
  obtain ⟨hD3,hcase⟩:=turn k n ys H3 w3;rcases hcase with ⟨stop,qn⟩ | ⟨go,hlen,step⟩
  ·refine bg (T.done (blk X scope (jl X scope C) C s2 H2 fp) rfl rfl rfl hcalm k [] s3 (aD is U) H3 xB I3 (FY fr3) st3 stop) fun r s4 ⟨hr,I4⟩=>?_
   subst hr;obtain ⟨m,hn,_⟩:=id I4.loc;exact hRR _ C s4 H3 m (out I4) hn qn I4.free (fun z=>Nat.lt_irrefl _ (Nat.lt_trans (Nat.lt_of_lt_of_eq hDC z) I2.lt)) (Nat.le_trans I2.sz (Nat.le_of_lt hDC)) hCx hCp
  ·refine bg (T.item (blk X scope (jl X scope C) C s2 H2 fp) rfl rfl rfl hcalm k [] s3 (aD is U) H3 xB I3 (FY fr3) st3 go) fun r s4 ⟨u,hr,h4⟩=>?_
   subst hr;refine bg h4 fun _ s5 ⟨x,H5,I5,r5,y5,st5,fr5⟩=>?_
   have I5':=I5.pinned (FY fr5) (T.obj _ _ st5)
   refine bg (Hg _ s5 (aD is U) H5 x u _ I5' r5 (step x H5 y5)) fun _ s6 ⟨U6,H6,I6,le6,q6⟩=>?_
   refine bg (Hc _ s6 U6 H6 _ I6 q6) fun ok s7 ⟨H7,I7,q7⟩=>?_
   have again:∀{H8:Hp} {s8:Shared} {ys':List V},Inv (blk X scope (jl X scope C) C s2 H2 fp) ([]++BZ fp s5.heap) U6 H8 s8->(∃m',m'<n/\W (k+1) m' ys' H8) ->
     ∃m,m<n/\∃k ys H',Inv (blk X scope (jl X scope C) C s2 H2 fp) [] (aD is U) H' s8/\tn k s8.heap/\(∀b∈fp,H' b=none)/\W k m ys H':=fun {H8 s8 ys'} I8 ⟨m',hm,w8⟩=>by
    refine ⟨m',hm,k+1,ys',H8,(I8.weak le6.1.symm le6.2).unpinned,T.keep _ _ _ st5 fun b hb o e=>(I8.pin (b,o) (Ko _ (Ko _ (Fu hb e)))).1,fun b hb=>?_,w8⟩
    obtain ⟨o,e,d⟩:=T.obj _ _ st5 b hb;exact (I8.pin (b,o) (Ko _ (Ko _ (Fu hb e)))).2.1
   cases ok with
   | false=>
    rw [if_neg Bool.false_ne_true] at q7;exact again I7 q7
   | true=>
    rw [if_pos rfl] at q7;refine bg (He _ s7 U6 H7 _ I7 q7) fun y s8 ⟨v8,H8,I8,r8,q8⟩=>?_
    obtain ⟨hD8,q8⟩:=q8;refine bg (Ha _ s8 U6 H8 (.ref s2.heap.objs.size) [v8] (.ref s2.heap.objs.size) [y] (fun _ H9=>∃m',m'<n/\W (k+1) m' (ys++[v8]) H9) I8 rfl (.cons r8 .nil) ⟨_,ys,v8,rfl,rfl,hD8,hlen,q8⟩) fun _ s9 ⟨_,H9,I9,_,q9⟩=>?_
    exact again I9 q9
 exact codeAny_compStart_list (loop _ rfl) (T.self X.A 0 _ _ _ (T.keep 0 _ _ st2 fun b _ o e=>pushCells_keeps _ _ b o (Kz _ (Kz _ e))) (loop _ rfl))
theorem xQ (S:cZ X.N is X.env.scope scope) (hcalm:X.calm=true) (hi:PI X tg iter wi)
  (hg:∀cells C s₀ H₀ ex,PG (blk X scope cells C s₀ H₀ ex) tg g) (hc:∀cells C s₀ H₀ ex,PF (blk X scope cells C s₀ H₀ ex) ifs tc) (he:∀cells C s₀ H₀ ex,PE (blk X scope cells C s₀ H₀ ex) elt te)
  (hs:∀x,foldedSetIterable iter X.env x=pure x:=by intro _;rfl):PE X (.ListComp elt [⟨tg,iter,ifs,0⟩] scope pos) (bJ is wi g tc te):=by
 intro pins s U H Q I h;rw [eval_ListComp];refine wpAny_comprehension_free (use:=none) rfl hs (fq (I.freeCells S)) S.kind S.loc (jc (RR:=fun acc C=>compPost (model X.prog X.w) X.A X.xe none (EP X pins U Q) acc C) S hcalm hi hg hc he I h ?_)
 intro D C s' H' m I' hn q n1 n2 n3 n4 n5
 refine ⟨m,hn,fun h' hs'=>?_⟩
 exact ⟨.ref D,H',I'.turned (t':=s'.toks) (fun b o hb e=>(hs'.2 b hb).trans e) n1 n2 (.inr n3) n4 n5,rfl,q⟩
theorem mE {i:Nat} {y:Str} {pos' spos:Pos} (hN:X.N.Nodup) (hy:X.N[i]?=some y) (hl:X.env.scope.names.lookup y=some .local) (S:cZ X.N is X.env.scope scope) (hcalm:X.calm=true) (hi:PI X tg iter wi)
  (hg:∀cells C s₀ H₀ ex,PG (blk X scope cells C s₀ H₀ ex) tg g) (hc:∀cells C s₀ H₀ ex,PF (blk X scope cells C s₀ H₀ ex) ifs tc) (he:∀cells C s₀ H₀ ex,PE (blk X scope cells C s₀ H₀ ex) elt te)
  (hsw:swapsWith (.ListComp elt [⟨tg,iter,ifs,0⟩] scope pos) (some (.Name y pos')) spos.line X.env=pure true)
  (hs:∀x,foldedSetIterable iter X.env x=pure x:=by intro _;rfl):PS X (.Assign [.Name y pos'] (.ListComp elt [⟨tg,iter,ifs,0⟩] scope pos) spos) (fun D U H=>bJ is wi g tc te U H fun v H'=>D.nx (U.set i (some v)) H'):=by
 intro pins s U H Ds I h;rw [exec_Assign_Name_used _ _ _ _ hsw];refine Kx (wpAny_standAt (Kx ?_))
 show wpAny _ X.A (do let _ <-comprehension (.ListComp elt [⟨tg,iter,ifs,0⟩] scope pos) scope X.env _ (newList []) false (eval iter X.env) (some (assign (.Name y pos') X.env))) _ _ s
 refine Kx (wpAny_mono (wpAny_comprehension_free (use:=some (assign (.Name y pos') X.env)) (Q:=fun _ s'=>SP X pins Ds .next s') rfl hs (fq (I.freeCells S)) S.kind S.loc
  (jc (RR:=fun acc C=>compPost (model X.prog X.w) X.A X.xe (some (assign (.Name y pos') X.env)) (fun _ s'=>SP X pins Ds .next s') acc C) S hcalm hi hg hc he I h ?_)) (fun _ s' hq=>Ky (Ky hq)) fun _ _ e=>e)
 intro D C s' H' m I' hn q n1 n2 n3 n4 n5
 show wpAny _ X.A (assign (.Name y pos') X.env (.ref D)) _ _ _
 refine wpAny_assign_Name (iM (v:=.ref D) I' hN hy (.inl hl) rfl (fun s'' I'' hch=>?_) (.inr hl))
 obtain ⟨a,hsb,ha⟩:=hch;have hCa:C≠a:=by
  rcases ha with e | e
  ·rw [e];exact n2
  ·exact (n4 y a e).symm
 refine ⟨m,hn.sameBut hsb hCa,fun h' hs'=>?_⟩
 exact ⟨_,H',I''.turned (t':=s''.toks) (fun b o hb e=>(hs'.2 b hb).trans e) n1 n2 (.inr n3) n4 n5,q⟩
end
end L2
namespace T
open PySem PySem.Spec L2
open PyProof.Rows hiding St
variable {K:Fg} {H' H2 He H1 He':Hp} {a:Addr} {o:HO} {O' G F M:List Addr} {Fs Fs2 Fs' Gs Fs1:List (List Addr)} {t t':TT} {es ifs:List Expr} {X:Cx} {U:St} {x qual y:Str} {α:Type} {vs:List V} {bs:List Bool} {A:Around} {lo cs ls gs:List Nat} {n:Nat} {tg iter elt:Expr} {N ps gl:List Str} {fd:FuncData} {op':CmpOp} {g':KB->KB->Option KB} {scope:Scope} {px pos' apos cpos:Pos} {mg:Str->Option Value} {env:Env}
abbrev D:=PyData
inductive Rep (K:Fg) (H:Hp):V->D->Prop where
 | non:Rep K H .non .none
 | bl (b:Bool):Rep K H (.bl b) (.bool b)
 | int (i:Int):Rep K H (.int i) (.int i)
 | str (x:Str):Rep K H (.str x) (.str x)
 | lst {p:Addr} {vs:List V} {ds:List D}:SqL K H p vs->vs.length=ds.length->(∀(i:Nat) v d,vs[i]?=some v->ds[i]?=some d->Rep K H v d)->Rep K H (.ref p) (.list ds)
 | tup {p:Addr} {vs:List V} {ds:List D}:SqT K H p vs->vs.length=ds.length->(∀(i:Nat) v d,vs[i]?=some v->ds[i]?=some d->Rep K H v d)->Rep K H (.ref p) (.tuple ds)
theorem aV {H:Hp} {xs:List V} (e:Same H H') (h:SqT K H a xs):SqT K H' a xs:=by
 rcases h with (h | ⟨o,h⟩) | h
 ·exact .inl (.inl (e _ _ h))
 ·exact .inl (.inr ⟨o,e _ _ h⟩)
 ·exact .inr h
theorem Rep.mono {H:Hp} {v:V} {d:D} (e:Same H H') (h:Rep K H v d):Rep K H' v d:=by
 induction h with
 | non=>exact .non
 | bl b=>exact .bl b
 | int i=>exact .int i
 | str x=>exact .str x
 | lst hs hl _ ih=>exact .lst (e.seq hs) hl ih
 | tup hs hl _ ih=>exact .tup (aV e hs) hl ih
def Reps (K:Fg) (H:Hp) (vs:List V) (ds:List D):Prop:=vs.length=ds.length/\∀(i:Nat) v d,vs[i]?=some v->ds[i]?=some d->Rep K H v d
def aC (H:Hp) (O:List Addr):Hp:=fun a=>if a∈O then none else H a
theorem hid_le {H:Hp} {O:List Addr}:Same (aC H O) H:=fun b o h=>by
 unfold aC at h;split at h
 ·cases h
 ·exact h
theorem h9 {H:Hp} {O:List Addr} (h:H a=some o) (n:a∉O):aC H O a=some o:=by
 unfold aC;rw [if_neg n];exact h
theorem dW {H:Hp} {O:List Addr} (e:Same H H') (h:∀a∈O',a∈O\/H a=none):Same (aC H O) (aC H' O'):=fun b o q=>by
 unfold aC at q ⊢
 split at q
 ·cases q
 ·rename_i hn
  have hb:b∉O':=fun z=>(h b z).elim hn fun z=>by rw [z] at q;cases q
  rw [if_neg hb];exact e b o q
theorem hid_upd {H:Hp} {O:List Addr} {p:Addr} (h:p∈O):aC (upd H p o) O=aC H O:=by
 funext b
 unfold aC;split
 ·rfl
 ·rename_i hb
  exact bw fun e=>hb (e▸h)
theorem oP {H:Hp}:aC H []=H:=by
 funext b;unfold aC;simp
theorem cb {H:Hp} {p:Addr} (h:H p=none):Same H (upd H p o):=fun b u e=>by
 rw [bw (u6 e h)];exact e
inductive Sh where
 | view | leaf | lst (s:Sh) | tup (ss:List Sh)
def Sh.isView:Sh->Bool
 | .view=>true
 | _=>false
inductive Own (K:Fg) (O:List Addr) (H:Hp):Sh->List Addr->V->D->Prop where
 | view {v d}:Rep K H v d->Own K O H .view [] v d
 | leaf {v d}:Rep K (aC H O) v d->Own K O H .leaf [] v d
 | lst {s:Sh} {p:Addr} {vs:List V} {ds:List D} {Fs:List (List Addr)}:s.isView=false->H p=some (.lst vs)->vs.length=ds.length->Fs.length=ds.length->(p::Fs.flatten).Nodup ->
   (∀(i:Nat) v d F,vs[i]?=some v->ds[i]?=some d->Fs[i]?=some F->Own K O H s F v d)->Own K O H (.lst s) (p::Fs.flatten) (.ref p) (.list ds)
 | tup {ss:List Sh} {p:Addr} {vs:List V} {ds:List D} {Fs:List (List Addr)}:(∀s∈ss,s.isView=false)->H p=some (.tup vs)->p∉O->vs.length=ds.length->Fs.length=ds.length->ss.length=ds.length->Fs.flatten.Nodup ->
   (∀(i:Nat) v d F s,vs[i]?=some v->ds[i]?=some d->Fs[i]?=some F->ss[i]?=some s->Own K O H s F v d)->Own K O H (.tup ss) Fs.flatten (.ref p) (.tuple ds)
theorem Own.mono {O:List Addr} {H:Hp} {s:Sh} {v:V} {d:D} (h:Own K O H s G v d) (e:Same H H') (hO:∀a∈O',a∈O\/H a=none):Own K O' H' s G v d:=by
 induction h with
 | view r=>exact .view (r.mono e)
 | leaf r=>exact .leaf (r.mono (dW e hO))
 | lst hv hp hl hf nd _ ih=>exact .lst hv (e _ _ hp) hl hf nd fun i v d F h1 h2 h3=>ih i v d F h1 h2 h3
 | tup hv hp hn hl hf hs nd _ ih=>exact .tup hv (e _ _ hp) (fun z=>(hO _ z).elim hn fun z=>by rw [z] at hp;cases hp) hl hf hs nd fun i v d F s h1 h2 h3 h4=>ih i v d F s h1 h2 h3 h4
theorem Own.rep {O:List Addr} {H:Hp} {s:Sh} {v:V} {d:D} (h:Own K O H s G v d):Rep K H v d:=by
 induction h with
 | view r=>exact r
 | leaf r=>exact r.mono hid_le
 | lst hv hp hl hf _ q ih=>
  refine .lst (.of hp) hl fun i v d h1 h2=>?_
  rename_i Fs _;obtain ⟨F,hF⟩:∃F,Fs[i]?=some F:=by
   have:=(Kw h2).1
   exact ⟨Fs[i]'(by omega),Ks _⟩
  exact ih i v d F h1 h2 hF
 | tup hv hp hn hl hf hs _ q ih=>
  refine .tup (.of hp) hl fun i v d h1 h2=>?_
  rename_i ss _ _ _ Fs _;have hi:=(Kw h2).1
  exact ih i v d (Fs[i]'(by omega)) (ss[i]'(by omega)) h1 h2 (Ks _) (Ks _)
theorem ia {i:Nat} (h:Fs[i]?=some F) (ha:a∈F):a∈Fs.flatten:=List.mem_flatten.mpr ⟨F,mem_of_getElem? h,ha⟩
theorem Own.freeze {O:List Addr} {H:Hp} {s:Sh} {v:V} {d:D} (h:Own K O H s G v d) (hs:s.isView=false) (h1:∀a∈O',a∈O) (h2:∀a∈G,a∉O'):Rep K (aC H O') v d:=by
 induction h with
 | view r=>cases hs
 | leaf r=>exact r.mono (dW (Same.refl _) fun a z=>.inl (h1 a z))
 | lst hv hp hl hf _ q ih=>
  refine .lst (.of (h9 hp (h2 _ mem_cons_self))) hl fun i v d e1 e2=>?_
  rename_i Fs _;obtain ⟨F,hF⟩:∃F,Fs[i]?=some F:=by
   have:=(Kw e2).1
   exact ⟨Fs[i]'(by omega),Ks _⟩
  exact ih i v d F e1 e2 hF hv fun a ha=>h2 a (Ku _ (ia hF ha))
 | tup hv hp hn hl hf hs' _ q ih=>
  refine .tup (.of (h9 hp fun z=>hn (h1 _ z))) hl fun i v d e1 e2=>?_
  rename_i ss _ _ _ Fs _;have hi:=(Kw e2).1
  have e3:Fs[i]?=some (Fs[i]'(by omega)):=Ks _
  exact ih i v d _ (ss[i]'(by omega)) e1 e2 e3 (Ks _) (hv _ (getElem_mem _)) fun a ha=>h2 a (ia e3 ha)
theorem Own.mut {O:List Addr} {H:Hp} {s:Sh} {v:V} {d:D} {p:Addr} {xs:List V} (h:Own K O H s G v d) (hs:s.isView=false) (hp:p∈O) (hg:p∉G) (hl:H p=some (.lst xs)):Own K O (upd H p o) s G v d:=by
 induction h with
 | view r=>cases hs
 | leaf r=>refine .leaf ?_;rw [hid_upd hp];exact r
 | lst hv hq hl' hf nd q ih=>
  refine .lst hv ?_ hl' hf nd fun i v d F e1 e2 e3=>ih i v d F e1 e2 e3 hv fun z=>hg (Ku _ (ia e3 z))
  rw [bw (fun z=>hg (by rw [<-z];exact mem_cons_self))]
  exact hq
 | tup hv hq hn hl' hf hs' nd q ih=>
  refine .tup hv ?_ hn hl' hf hs' nd fun i v d F s e1 e2 e3 e4=>ih i v d F s e1 e2 e3 e4 (hv _ (mem_of_getElem? e4)) fun z=>hg (ia e3 z)
  rw [bw (fun z=>by rw [z,hl] at hq;cases hq)]
  exact hq
inductive Sc:V->D->Prop where
 | non:Sc .non .none
 | bl (b:Bool):Sc (.bl b) (.bool b)
 | int (i:Int):Sc (.int i) (.int i)
 | str (x:Str):Sc (.str x) (.str x)
theorem Sc.rep {H:Hp} {v:V} {d:D} (h:Sc v d):Rep K H v d:=by cases h<;>constructor
def bB:D->Bool
 | .list _=>false
 | .tuple _=>false
 | .dict _=>false
 | _=>true
theorem Rep.sc {H:Hp} {v:V} {d:D} (h:Rep K H v d) (s:bB d=true):Sc v d:=by
 cases h with
 | non=>exact .non
 | bl b=>exact .bl b
 | int i=>exact .int i
 | str x=>exact .str x
 | lst _ _ _=>cases s
 | tup _ _ _=>cases s
structure PV where
 s:Sh
 d:D
abbrev Ev:=List (Option PV)
@[simp] abbrev KD (d:PySem.PyData):Option PV:=some ⟨.leaf,d⟩
inductive Out (α:Type) where
 | ok (a:α) (e:Ev)
 | er (c:Str) (e:Ev)
 | no
def Out.bind {α β:Type} (x:Out α) (k:α->Ev->Out β):Out β:=match x with
 | .ok a e=>k a e
 | .er c e=>.er c e
 | .no=>.no
structure EnvOk (K:Fg) (He:Hp) (O:List Addr) (Fs:List (List Addr)) (H:Hp) (U:St) (Γ:Ev):Prop where
 len1:U.length=Γ.length
 len2:Fs.length=Γ.length
 same:Same He H
 nd:(O++Fs.flatten).Nodup
 inH:∀a∈O++Fs.flatten,H a≠none
 fresh:∀a∈Fs.flatten,He a=none
 slot:∀(i:Nat) (p:PV),Γ[i]?=some (some p)->p.s.isView=false/\∃v F,U[i]?=some (some v)/\Fs[i]?=some F/\Own K (O++Fs.flatten) H p.s F v p.d
section
variable {K:Fg} {He H H':Hp} {O O' G:List Addr} {Fs:List (List Addr)} {U:St} {Γ:Ev}
theorem EnvOk.grow (h:EnvOk K He O Fs H U Γ) (e:Same H H'):EnvOk K He O Fs H' U Γ:=
 ⟨h.len1,h.len2,h.same.trans e,h.nd,fun a ha z=>h.inH a ha (e.free z),h.fresh,fun i p q=>let ⟨a,v,F,b,c,d⟩:=h.slot i p q;⟨a,v,F,b,c,d.mono e fun _ z=>.inl z⟩⟩
theorem EnvOk.drop (h:EnvOk K He O Fs H U Γ) (hs:∀a∈O',a∈O) (nd:O'.Nodup):EnvOk K He O' Fs H U Γ:=by
 obtain ⟨n1,n2,n3⟩:=Kv h.nd;refine ⟨h.len1,h.len2,h.same,List.nodup_append.mpr ⟨nd,n2,fun a ha b hb=>n3 a (hs a ha) b hb⟩,fun a ha=>h.inH a ?_,h.fresh,fun i p q=>let ⟨a,v,F,b,c,d⟩:=h.slot i p q;⟨a,v,F,b,c,d.mono (Same.refl _) fun a z=>.inl ?_⟩⟩
 ·rcases Kq ha with z | z
  ·exact Kp _ (hs a z)
  ·exact Ko _ z
 ·rcases Kq z with z | z
  ·exact Kp _ (hs a z)
  ·exact Ko _ z
theorem EnvOk.dropL (h:EnvOk K He (G++O) Fs H U Γ):EnvOk K He O Fs H U Γ:=h.drop (fun a z=>Ko _ z) (Kv (Kv h.nd).1).2.1
theorem EnvOk.hide (h:EnvOk K He O Fs H U Γ) (e:Same H H') (nd:G.Nodup) (hn:∀a∈G,H a=none) (hi:∀a∈G,H' a≠none):EnvOk K He (G++O) Fs H' U Γ:=by
 refine ⟨h.len1,h.len2,h.same.trans e,?_,fun a ha=>?_,h.fresh,fun i p q=>let ⟨a,v,F,b,c,d⟩:=h.slot i p q;⟨a,v,F,b,c,d.mono e fun a z=>?_⟩⟩
 ·rw [append_assoc]
  exact List.nodup_append.mpr ⟨nd,h.nd,fun a ha b hb z=>h.inH b hb (by rw [<-z];exact hn a ha)⟩
 ·rw [append_assoc] at ha
  rcases Kq ha with z | z
  ·exact hi a z
  ·exact fun q=>h.inH a z (e.free q)
 ·rw [append_assoc] at z
  rcases Kq z with z | z
  ·exact .inr (hn a z)
  ·exact .inl z
end
structure Aft (K:Fg) (He:Hp) (O:List Addr) (Fs:List (List Addr)) (H:Hp) (U:St) (Γ':Ev) (p:PV) (v:V) (H':Hp) (G:List Addr) (Fs':List (List Addr)):Prop where
 same:Same H H'
 env:EnvOk K He (G++O) Fs' H' U Γ'
 new:∀a∈G++Fs'.flatten,a∈Fs.flatten\/H a=none
 own:Own K (G++O++Fs'.flatten) H' p.s G v p.d
abbrev XW:=Str->St->Hp->Prop
abbrev F1:=Ev->Out PV
def tE (K:Fg) (W:XW) (f:F1):TE:=fun U H Q=>∃He O Fs Γ,EnvOk K He O Fs H U Γ/\match f Γ with
 | .ok p Γ'=>∀v H' G Fs',Aft K He O Fs H U Γ' p v H' G Fs'->Q v H'
 | .er c Γ'=>∀H' Fs',Same H H'->EnvOk K He O Fs' H' U Γ'->W c U H'
 | .no=>False
def Wants (K:Fg) (W:XW) (He:Hp) (O:List Addr) (Fs:List (List Addr)) (H:Hp) (U:St) (Q:VK) (o:Out PV):Prop:=match o with
 | .ok p Γ'=>∀v H' G Fs',Aft K He O Fs H U Γ' p v H' G Fs'->Q v H'
 | .er c Γ'=>∀H' Fs',Same H H'->EnvOk K He O Fs' H' U Γ'->W c U H'
 | .no=>False
section
variable {K:Fg} {W:XW} {He H:Hp} {O:List Addr} {Fs:List (List Addr)} {U:St} {Γ Γ':Ev} {Q:VK}
theorem Wants.scal {O2:List Addr} {v:V} {d:D} (h:Wants K W He O Fs H U Q (.ok ⟨.leaf,d⟩ Γ')) (s:Sc v d) (e:Same H H2) (E:EnvOk K He O2 Fs2 H2 U Γ')
  (hO:∀a∈O,a∈O2) (nd:O.Nodup) (new:∀a∈Fs2.flatten,a∈Fs.flatten\/H a=none):Q v H2:=
 h v H2 [] Fs2 ⟨e,by rw [nil_append];exact E.drop hO nd,by rw [nil_append];exact new,.leaf s.rep⟩
theorem EnvOk.ndO (E:EnvOk K He O Fs H U Γ):O.Nodup:=(Kv E.nd).1
end
def aU {β:Type} (f:F1) (k:PV->Ev->Out β):Ev->Out β:=fun Γ=>(f Γ).bind k
section
variable {K:Fg} {W:XW} {U:St} {H:Hp} {Q:VK} {fa fb:F1}
theorem EC {k:PV->F1} {R:VK} (h:tE K W (aU fa k) U H Q)
  (hk:∀He O Fs Γ1 p v H1 G Fs1,O.Nodup->Aft K He O Fs H U Γ1 p v H1 G Fs1->Wants K W He O Fs H U Q (k p Γ1)->R v H1):tE K W fa U H R:=by
 obtain ⟨He,O,Fs,Γ,E,h⟩:=h;refine ⟨He,O,Fs,Γ,E,?_⟩
 unfold aU at h
 cases e:fa Γ with
 | ok p Γ1=>
  rw [e] at h;exact fun v H' G Fs' A=>hk He O Fs Γ1 p v H' G Fs' E.ndO A h
 | er c Γ1=>
  rw [e] at h;exact h
 | no=>
  rw [e] at h;exact h
theorem ED {k:PV->PV->F1} {R:V->V->Hp->Prop} (h:tE K W (aU fa fun p=>aU fb fun q=>k p q) U H Q)
  (hk:∀He O Fs Γ2 p q v u H1 H2 G1 G2 Fs2,O.Nodup->Same H H1->Same H1 H2->EnvOk K He (G2++(G1++O)) Fs2 H2 U Γ2->(∀a∈G2++(G1++Fs2.flatten),a∈Fs.flatten\/H a=none) ->
   Own K (G2++(G1++O)++Fs2.flatten) H2 p.s G1 v p.d->Own K (G2++(G1++O)++Fs2.flatten) H2 q.s G2 u q.d->Wants K W He O Fs H U Q (k p q Γ2)->R v u H2) :
  tE K W fa U H fun v H1=>tE K W fb U H1 fun u H2=>R v u H2:=by
 refine EC (k:=fun p=>aU fb fun q=>k p q) h fun He O Fs Γ1 p v H1 G1 Fs1 nd A1 h1=>?_
 refine ⟨He,G1++O,Fs1,Γ1,A1.env,?_⟩
 unfold aU at h1
 cases e:fb Γ1 with
 | ok q Γ2=>
  rw [e] at h1;intro u H2 G2 Fs2 A2;have new:∀a∈G2++(G1++Fs2.flatten),a∈Fs.flatten\/H a=none:=fun a ha=>by
   have up:a∈G1++Fs1.flatten->a∈Fs.flatten\/H a=none:=A1.new a
   rcases Kq ha with z | z
   ·rcases A2.new a (Kp _ z) with y | y
    ·exact up (Ko _ y)
    ·exact .inr (A1.same.free y)
   ·rcases Kq z with z | z
    ·exact up (Kp _ z)
    ·rcases A2.new a (Ko _ z) with y | y
     ·exact up (Ko _ y)
     ·exact .inr (A1.same.free y)
  refine hk He O Fs Γ2 p q v u H1 H2 G1 G2 Fs2 nd A1.same A2.same A2.env new (A1.own.mono A2.same fun a ha=>?_) A2.own h1
  rcases Kq ha with z | z
  ·rcases Kq z with z | z
   ·rcases A2.new a (Kp _ z) with y | y
    ·exact .inl (Ko _ y)
    ·exact .inr y
   ·exact .inl (Kp _ z)
  ·rcases A2.new a (Ko _ z) with y | y
   ·exact .inl (Ko _ y)
   ·exact .inr y
 | er c Γ2=>
  rw [e] at h1;intro H2 Fs2 hs E2;exact h1 H2 Fs2 (A1.same.trans hs) E2.dropL
 | no=>
  rw [e] at h1;exact h1
end
section
variable {X:Cx} {e:Expr}
theorem aZ {t t':TE} (h:PE X e t) (i:∀U H Q,t' U H Q->t U H Q):PE X e t':=fun pins s U H Q I q=>h pins s U H Q I (i U H Q q)
theorem o7 (h:PT X e t) (i:∀U H Q,t' U H Q->t U H Q):PT X e t':=fun pins s U H Q I q=>h pins s U H Q I (i U H Q q)
theorem yH (h:PW X e t) (i:∀U H Q,t' U H Q->t U H Q):PW X e t':=fun whole pins s U H Q I q=>h whole pins s U H Q I (i U H Q q)
theorem yI {t t':TA} (h:PA X es t) (i:∀U H Q,t' U H Q->t U H Q):PA X es t':=fun pos pins s U H Q I q=>h pos pins s U H Q I (i U H Q q)
theorem d7 {st:Stmt} {t t':TS} (h:PS X st t) (i:∀D U H,t' D U H->t D U H):PS X st t':=fun pins s U H D I q=>h pins s U H D I (i D U H q)
theorem uN {st:List Stmt} {t t':TS} (h:PSs X st t) (i:∀D U H,t' D U H->t D U H):PSs X st t':=fun pins s U H D I q=>h pins s U H D I (i D U H q)
theorem Er (h:PF X es t) (i:∀U H Q,t' U H Q->t U H Q):PF X es t':=fun pins s U H Q I q=>h pins s U H Q I (i U H Q q)
end
theorem HD {h:Heap}:∀{vs:List V} {its:List Value} {ds:List D},Vals vs its->vs.length=ds.length->(∀(i:Nat) v d,vs[i]?=some v->ds[i]?=some d->∀u,RelV v u->∃as,Reads h u d as)->∃as,ReadsAll h its ds as
 | _,_,[],.nil,_,_=>⟨_,.nil⟩
 | _,_,d::ds,.cons (a:=v) (b:=u) r t,hl,h=>by
  obtain ⟨as,ra⟩:=h 0 v d rfl rfl u r;obtain ⟨bs,rb⟩:=HD t (by simpa using hl) fun i v d h1 h2=>h (i+1) v d (by simpa using h1) (by simpa using h2)
  exact ⟨_,.cons ra rb⟩
 | _,_,[],.cons _ _,hl,_=>by simp at hl
 | _,_,_::_,.nil,hl,_=>by simp at hl
theorem Rep.reads {pins:List (Addr×Obj)} {H:Hp} {s:Shared} {x:V} {d:D} (I:Inv X pins U H s) (r:Rep X.K H x d):∀u,RelV x u->∃as,Reads s.heap u d as:=by
 induction r with
 | non=>rintro u rfl;exact ⟨_,.none⟩
 | bl b=>rintro u rfl;exact ⟨_,.bool b⟩
 | int i=>rintro u ⟨t,rfl⟩;exact ⟨_,.int i t⟩
 | str x=>rintro u ⟨t,rfl⟩;exact ⟨_,.str x t⟩
 | lst hq hl _ ih=>
  rintro u rfl
  obtain ⟨its,rv,⟨o,n,e1,e2,e3,e4⟩,_⟩:=I.list hq;obtain ⟨as,ra⟩:=HD rv hl ih;exact ⟨_,.list e1 e2 e4 (by simpa using ra)⟩
 | tup hq hl _ ih=>
  rintro u rfl
  obtain ⟨its,rv,⟨o,e1,e2,n,e4⟩,_⟩:=I.tuple hq;obtain ⟨as,ra⟩:=HD rv hl ih;exact ⟨_,.tuple e1 e2 e4 (by simpa using ra)⟩
theorem mm {α:Type} {F G:List α}:∀{Fs:List (List α)} {i:Nat},Fs[i]?=some F->(F++(Fs.set i G).flatten).Perm (G++Fs.flatten)
 | [],_,h=>by simp at h
 | A::r,0,h=>by
  simp at h
  subst h;simp only [List.set_cons_zero,flatten_cons]
  rw [<-append_assoc,<-append_assoc];exact List.Perm.append_right _ perm_append_comm
 | A::r,i+1,h=>by
  have ih:=mm (G:=G) (Fs:=r) (i:=i) (by simpa using h)
  simp only [List.set_cons_succ,flatten_cons]
  calc (F++(A++(r.set i G).flatten)).Perm (A++(F++(r.set i G).flatten)):=by
        rw [<-append_assoc,<-append_assoc];exact List.Perm.append_right _ perm_append_comm
    _ |>.Perm (A++(G++r.flatten)):=List.Perm.append_left _ ih
    _ |>.Perm (G++(A++r.flatten)):=by
        rw [<-append_assoc,<-append_assoc];exact List.Perm.append_right _ perm_append_comm
section
variable {K:Fg} {He H:Hp} {O G:List Addr} {Fs:List (List Addr)} {U:St} {Γ:Ev}
theorem EnvOk.lt (E:EnvOk K He O Fs H U Γ) {i:Nat} (h:i<Γ.length):∃F,Fs[i]?=some F:=⟨Fs[i]'(by rw [E.len2];exact h),Ks _⟩
theorem EnvOk.move {i:Nat} {p:PV} (E:EnvOk K He O Fs H U Γ) (h:Γ[i]?=some (some p)) :
  p.s.isView=false/\∃v F,U[i]?=some (some v)/\EnvOk K He (F++O) (Fs.set i []) H U (Γ.set i none)/\Own K (F++O++(Fs.set i []).flatten) H p.s F v p.d/\(∀a∈F++(Fs.set i []).flatten,a∈Fs.flatten):=by
 obtain ⟨hv,v,F,h1,h2,h3⟩:=E.slot i p h;have pm:(F++(Fs.set i []).flatten).Perm Fs.flatten:=by simpa using mm (G:=[]) h2
 have pm2:(F++O++(Fs.set i []).flatten).Perm (O++Fs.flatten):=by
  rw [append_assoc]
  calc (F++(O++(Fs.set i []).flatten)).Perm (O++(F++(Fs.set i []).flatten)):=by
        rw [<-append_assoc,<-append_assoc];exact List.Perm.append_right _ perm_append_comm
    _ |>.Perm (O++Fs.flatten):=List.Perm.append_left _ pm
 refine ⟨hv,v,F,h1,⟨by rw [length_set];exact E.len1,by rw [length_set,length_set];exact E.len2,E.same,pm2.nodup_iff.mpr E.nd,fun a ha=>E.inH a (pm2.mem_iff.mp ha),fun a ha=>E.fresh a (pm.mem_iff.mp (Ko _ ha)),fun j q hq=>?_⟩,h3.mono (Same.refl _) fun a ha=>.inl (pm2.mem_iff.mp ha),fun a ha=>pm.mem_iff.mp ha⟩
 by_cases hj:j=i
 ·subst hj
  rw [List.getElem?_set] at hq;split at hq
  ·split at hq<;>cases hq
  ·rename_i z
   exact absurd rfl z
 ·rw [getElem?_set_ne (Ne.symm hj)] at hq
  obtain ⟨w1,v',F',e1,e2,e3⟩:=E.slot j q hq;exact ⟨w1,v',F',e1,by rw [getElem?_set_ne (Ne.symm hj)];exact e2,e3.mono (Same.refl _) fun a ha=>.inl (pm2.mem_iff.mp ha)⟩
theorem EnvOk.put {i:Nat} {p:PV} {v:V} (E:EnvOk K He (G++O) Fs H U Γ) (ho:Own K (G++O++Fs.flatten) H p.s G v p.d) (hv:p.s.isView=false) (hn:∀a∈G,He a=none) (hi:i<Γ.length) :
  EnvOk K He O (Fs.set i G) H (U.set i (some v)) (Γ.set i (some p)):=by
 obtain ⟨F,hF⟩:=E.lt hi;have pm:=mm (G:=G) hF
 have nd:=E.nd
 rw [append_assoc] at nd;have sub:∀a∈O++(Fs.set i G).flatten,a∈G++O++Fs.flatten:=fun a ha=>by
  rw [append_assoc];rcases Kq ha with z | z
  ·exact Ko _ (Kp _ z)
  ·rcases Kq (pm.mem_iff.mp (Ko _ z)) with y | y
   ·exact Kp _ y
   ·exact Ko _ (Ko _ y)
 refine ⟨by rw [length_set,length_set];exact E.len1,by rw [length_set,length_set];exact E.len2,E.same,?_,fun a ha=>E.inH a (sub a ha),fun a ha=>?_,fun j q hq=>?_⟩
 ·have p1:(O++(F++(Fs.set i G).flatten)).Perm (G++(O++Fs.flatten)):=by
   calc (O++(F++(Fs.set i G).flatten)).Perm (O++(G++Fs.flatten)):=List.Perm.append_left _ pm
     _ |>.Perm (G++(O++Fs.flatten)):=by
       rw [<-append_assoc,<-append_assoc];exact List.Perm.append_right _ perm_append_comm
  have p2:=p1.nodup_iff.mpr nd
  refine p2.sublist ?_
  exact List.Sublist.append_left (List.sublist_append_right _ _) _
 ·rcases Kq (pm.mem_iff.mp (Ko _ ha)) with y | y
  ·exact hn a y
  ·exact E.fresh a y
 ·by_cases hj:j=i
  ·subst hj
   rw [getElem?_set_self hi] at hq
   cases hq;refine ⟨hv,v,G,?_,?_,ho.mono (Same.refl _) fun a ha=>.inl (sub a ha)⟩
   ·rw [getElem?_set_self (by rw [E.len1];exact hi)]
   ·rw [getElem?_set_self (by rw [E.len2];exact hi)]
  ·rw [getElem?_set_ne (Ne.symm hj)] at hq
   obtain ⟨w1,v',F',e1,e2,e3⟩:=E.slot j q hq;exact ⟨w1,v',F',by rw [getElem?_set_ne (Ne.symm hj)];exact e1,by rw [getElem?_set_ne (Ne.symm hj)];exact e2,e3.mono (Same.refl _) fun a ha=>.inl (sub a ha)⟩
theorem Aft.freshG {Γ':Ev} {p:PV} {v:V} (E:EnvOk K He O Fs H U Γ) (A:Aft K He O Fs H U Γ' p v H' G Fs'):∀a∈G,He a=none:=fun a ha=>by
 rcases A.new a (Kp _ ha) with z | z
 ·exact E.fresh a z
 ·exact E.same.free z
end
def ae (i:Nat):F1:=fun Γ=>match Γ[i]? with
 | some (some p)=>(match p.s with
  | .leaf=>.ok ⟨.leaf,p.d⟩ Γ
  | _=>.ok ⟨.view,p.d⟩ Γ)
 | _=>.no
def cz (i:Nat):F1:=fun Γ=>match Γ[i]? with
 | some (some p)=>.ok p (Γ.set i none)
 | _=>.no
def eK (d:D):F1:=fun Γ=>.ok ⟨.leaf,d⟩ Γ
section
variable {X:Cx} {W:XW} {i:Nat} {e:Expr} {pos:Pos}
theorem zu {H:Hp} {Q:VK} (h:tE K W (ae i) U H Q):ai i U H Q:=by
 obtain ⟨He,O,Fs,Γ,E,h⟩:=h;unfold ae at h
 cases e:Γ[i]? with
 | none=>rw [e] at h;exact h.elim
 | some o=>
  rw [e] at h
  cases o with
  | none=>exact h.elim
  | some p=>
   obtain ⟨hv,v,F,h1,h2,h3⟩:=E.slot i p e;obtain ⟨s,d⟩:=p;have new:∀a∈[]++Fs.flatten,a∈Fs.flatten\/H a=none:=fun a ha=>.inl (by simpa using ha)
   cases s with
   | leaf=>
    cases h3 with
    | leaf r=>exact ⟨v,h1,h v H [] Fs ⟨Same.refl _,by simpa using E,new,.leaf r⟩⟩
   | view=>cases hv
   | lst s=>exact ⟨v,h1,h v H [] Fs ⟨Same.refl _,by simpa using E,new,.view h3.rep⟩⟩
   | tup ss=>exact ⟨v,h1,h v H [] Fs ⟨Same.refl _,by simpa using E,new,.view h3.rep⟩⟩
theorem vQ {H:Hp} {Q:VK} (h:tE K W (cz i) U H Q):ai i U H Q:=by
 obtain ⟨He,O,Fs,Γ,E,h⟩:=h;unfold cz at h
 cases e:Γ[i]? with
 | none=>rw [e] at h;exact h.elim
 | some o=>
  rw [e] at h
  cases o with
  | none=>exact h.elim
  | some p=>
   obtain ⟨hv,v,F,h1,E',o',sub⟩:=E.move e;exact ⟨v,h1,h v H F (Fs.set i []) ⟨Same.refl _,E',fun a ha=>.inl (sub a ha),o'⟩⟩
theorem A5 (h:PE X e (ai i)):PE X e (tE X.K W (ae i)):=aZ h fun _ _ _=>zu
theorem xi (h:PE X e (ai i)):PE X e (tE X.K W (cz i)):=aZ h fun _ _ _=>vQ
theorem so {H:Hp} {Q:VK} {v:V} {d:D} (hs:∀H,Rep K H v d) (h:tE K W (eK d) U H Q):Q v H:=by
 obtain ⟨He,O,Fs,Γ,E,h⟩:=h;exact h v H [] Fs ⟨Same.refl _,by simpa using E,fun a ha=>.inl (by simpa using ha),.leaf (hs _)⟩
theorem de_int {j:Int} {k pos}:PE X (.Constant (.int j) k pos) (tE X.K W (eK (.int j))):=aZ Gp fun _ _ _=>so fun _=>.int j
theorem xj {v:V} {u:Value} {d:D} (hg:Gl X x) (hm:X.mg x=some u) (r:RelV v u) (hr:∀H,Rep X.K H v d) (hd:(x==("__debug__":Str))=false:=by decide):PE X (.Name x pos) (tE X.K W (eK d)):=
 aZ (wg hg hm r hd) fun _ _ _=>so hr
end
def aE (g:D->D->Option D) (fa fb:F1):F1:=aU fa fun p=>aU fb fun q=>fun Γ=>match g p.d q.d with
 | some d=>.ok ⟨.leaf,d⟩ Γ
 | none=>.no
def GOp (K:Fg) (r:R2) (g:D->D->Option D):Prop:=∀x y H Q a b d,Rep K H x a->Rep K H y b->g a b=some d->(∀v,Sc v d->Q v H)->r x y H Q
section
variable {K:Fg} {W:XW} {U:St} {H:Hp} {Q:VK} {fa fb:F1} {r:R2} {g:D->D->Option D}
theorem fK (hg:GOp K r g) (h:tE K W (aE g fa fb) U H Q):rz r (tE K W fa) (tE K W fb) U H Q:=by
 refine ED h ?_
 intro He O Fs Γ2 p q v u H1 H2 G1 G2 Fs2 nd s1 s2 E new o1 o2 w
 cases e:g p.d q.d with
 | none=>rw [e] at w;exact w.elim
 | some d=>
  rw [e] at w;exact hg v u H2 Q p.d q.d d o1.rep o2.rep e fun z s=>w.scal s (s1.trans s2) E (fun a ha=>Ko _ (Ko _ ha)) nd fun a ha=>new a (Ko _ (Ko _ ha))
end
theorem GOp.or {r r':R2} {g g':D->D->Option D} (h:GOp K r g) (h':GOp K r' g'):GOp K (fun x y H Q=>r x y H Q\/r' x y H Q) (fun a b=>(g a b).or (g' a b)):=by
 intro x y H Q a b d ra rb e k;have e:(g a b).or (g' a b)=some d:=e
 cases e1:g a b with
 | some z=>rw [e1] at e;cases e;exact .inl (h x y H Q a b _ ra rb e1 k)
 | none=>rw [e1] at e;exact .inr (h' x y H Q a b d ra rb (by simpa using e) k)
def gI (C:Int->Int->Bool) (f:Int->Int->D):D->D->Option D
 | .int i,.int j=>if C i j then some (f i j) else none
 | _,_=>none
theorem oQ {C:Int->Int->Prop} {C':Int->Int->Bool} {g:Int->Int->V} {f:Int->Int->D} (hC:∀i j,C' i j=true->C i j) (hs:∀i j,Sc (g i j) (f i j)):GOp K (rI C g) (gI C' f):=by
 intro x y H Q a b d ra rb e k
 cases ra<;>cases rb<;>simp only [gI] at e<;>try cases e
 rename_i i j;split at e
 ·rename_i c
  cases e;exact ⟨i,j,rfl,rfl,hC i j c,k _ (hs i j)⟩
 ·cases e
def yz (f:Int->Int->D):D->D->Option D
 | .int i,.int j=>some (f i j)
 | _,_=>none
theorem Bu {g:Int->Int->V} {f:Int->Int->D} (hs:∀i j,Sc (g i j) (f i j)):GOp K (nX g) (yz f):=by
 intro x y H Q a b d ra rb e k
 cases ra<;>cases rb<;>simp only [yz] at e<;>try cases e
 rename_i i j;exact ⟨i,j,rfl,rfl,k _ (hs i j)⟩
abbrev wY:=yz fun i j=>.int (i-j)
abbrev aX:=yz fun i j=>.int (i+j)
def qB (i j:Int):Bool:=(decide (-(2 ^ 64)<i)&&decide (i<2 ^ 64))||(decide (-(2 ^ 64)<j)&&decide (j<2 ^ 64))
abbrev lA:=gI qB fun i j=>.int (i*j)
def xu (_ j:Int):Bool:=decide (0<j)&&decide (j<1073741824)
abbrev gp:=gI xu fun i j=>.int (i / j)
def xt (_ j:Int):Bool:=decide (0<j)
abbrev bS:=gI xt fun i j=>.int (i % j)
def xr (i j:Int):Bool:=decide (0<=j)&&decide (j<=1000000)&&decide (i.natAbs<2 ^ 64)
abbrev wZ:=gI xr fun i j=>.int (i ^ j.toNat)
mutual
def Sh.same:Sh->Sh->Bool
 | .view,.view=>true
 | .leaf,.leaf=>true
 | .lst a,.lst b=>Sh.same a b
 | .tup as,.tup bs=>Sh.sameL as bs
 | _,_=>false
def Sh.sameL:List Sh->List Sh->Bool
 | [],[]=>true
 | a::as,b::bs=>Sh.same a b&&Sh.sameL as bs
 | _,_=>false
end
mutual
theorem Sh.same_eq:∀{a b:Sh},Sh.same a b=true->a=b
 | .view,.view,_=>rfl
 | .leaf,.leaf,_=>rfl
 | .lst a,.lst b,h=>by rw [Sh.same_eq (a:=a) (b:=b) (by simpa [Sh.same] using h)]
 | .tup as,.tup bs,h=>by rw [Sh.sameL_eq (as:=as) (bs:=bs) (by simpa [Sh.same] using h)]
 | .view,.leaf,h=>by simp [Sh.same] at h
 | .view,.lst _,h=>by simp [Sh.same] at h
 | .view,.tup _,h=>by simp [Sh.same] at h
 | .leaf,.view,h=>by simp [Sh.same] at h
 | .leaf,.lst _,h=>by simp [Sh.same] at h
 | .leaf,.tup _,h=>by simp [Sh.same] at h
 | .lst _,.view,h=>by simp [Sh.same] at h
 | .lst _,.leaf,h=>by simp [Sh.same] at h
 | .lst _,.tup _,h=>by simp [Sh.same] at h
 | .tup _,.view,h=>by simp [Sh.same] at h
 | .tup _,.leaf,h=>by simp [Sh.same] at h
 | .tup _,.lst _,h=>by simp [Sh.same] at h
theorem Sh.sameL_eq:∀{as bs:List Sh},Sh.sameL as bs=true->as=bs
 | [],[],_=>rfl
 | a::as,b::bs,h=>by
  have h:Sh.same a b=true/\Sh.sameL as bs=true:=by simpa [Sh.sameL] using h
  rw [Sh.same_eq h.1,Sh.sameL_eq h.2]
 | [],_::_,h=>by simp [Sh.sameL] at h
 | _::_,[],h=>by simp [Sh.sameL] at h
end
def coer (s:Sh) (p:PV):Bool:=match s with
 | .leaf=>!p.s.isView||bB p.d
 | .view=>false
 | s=>Sh.same s p.s
def aF (s:Sh) (G:List Addr):List Addr:=match s with
 | .leaf=>[]
 | _=>G
theorem qw {s:Sh} {p:PV} (h:coer s p=true):s.isView=false:=by
 cases s with
 | view=>simp [coer] at h
 | _=>rfl
theorem Fl {s:Sh} (h:a∈aF s G):a∈G:=by
 unfold aF at h;split at h
 ·simp at h
 ·exact h
theorem Own.coer {K:Fg} {O O':List Addr} {H:Hp} {s:Sh} {p:PV} {G:List Addr} {v:V} (h:Own K O H p.s G v p.d) (c:coer s p=true) (h1:∀a∈O',a∈O) (h2:∀a∈G,a∈O'->a∈aF s G):Own K O' H s (aF s G) v p.d:=by
 cases s with
 | view=>simp [T.coer] at c
 | leaf=>
  show Own K O' H .leaf [] v p.d
  have c:(!p.s.isView||bB p.d)=true:=c
  cases hv:p.s.isView with
  | false=>exact .leaf (h.freeze hv h1 fun a ha z=>by simpa [aF] using h2 a ha z)
  | true=>
   rw [hv] at c;exact .leaf (h.rep.sc (by simpa using c)).rep
 | lst s=>
  have e:Sh.lst s=p.s:=Sh.same_eq c
  show Own K O' H (.lst s) G v p.d
  rw [e];exact h.mono (Same.refl _) fun a ha=>.inl (h1 a ha)
 | tup ss=>
  have e:Sh.tup ss=p.s:=Sh.same_eq c
  show Own K O' H (.tup ss) G v p.d
  rw [e];exact h.mono (Same.refl _) fun a ha=>.inl (h1 a ha)
open PySem.SeqAt in
def eC:D->D->Option D:=fun a b=>if shaped a&&shaped b then some (.bool (PyData.eqv a b)) else none
open PySem.SeqAt in
def iw:D->D->Option D:=fun a b=>if shaped a&&shaped b then some (.bool (!PyData.eqv a b)) else none
open PySem.SeqAt in
def pM (K:Fg) (neg:Bool):R2:=fun x y H Q=>∃a b,Rep K H x a/\Rep K H y b/\shaped a=true/\shaped b=true/\Q (.bl (if neg then !PyData.eqv a b else PyData.eqv a b)) H
section
variable {X:Cx}
theorem Ac (hu:X.A.units+64<cLine):OpR X (compareOp .Eq) (pM X.K false):=by
 intro pins s U H x y v u Q I rx ry h;obtain ⟨a,b,ra,rb,sa,sb,q⟩:=h;obtain ⟨as,r1⟩:=ra.reads I v rx;obtain ⟨bs,r2⟩:=rb.reads I u ry;exact SeqAt.compareEq_shaped r1 r2 sa sb hu ⟨.bl _,H,I,rfl,q⟩
theorem zX (hu:X.A.units+64<cLine):OpR X (compareOp .NotEq) (pM X.K true):=by
 intro pins s U H x y v u Q I rx ry h;obtain ⟨a,b,ra,rb,sa,sb,q⟩:=h;obtain ⟨as,r1⟩:=ra.reads I v rx;obtain ⟨bs,r2⟩:=rb.reads I u ry;exact SeqAt.compareNe_shaped r1 r2 sa sb hu ⟨.bl _,H,I,rfl,q⟩
end
theorem AI:GOp K (pM K false) eC:=by
 intro x y H Q a b d ra rb e k;unfold eC at e;split at e
 ·rename_i c
  cases e;simp only [Bool.and_eq_true] at c
  exact ⟨a,b,ra,rb,c.1,c.2,k _ (.bl _)⟩
 ·cases e
theorem AF:GOp K (pM K true) iw:=by
 intro x y H Q a b d ra rb e k;unfold iw at e;split at e
 ·rename_i c
  cases e;simp only [Bool.and_eq_true] at c
  exact ⟨a,b,ra,rb,c.1,c.2,k _ (.bl _)⟩
 ·cases e
def AM:D->D->Option D
 | .str i,.str j=>some (.bool (decide (i.cps.toList<j.cps.toList)))
 | _,_=>none
abbrev IQ:=yz fun i j=>.bool (decide (i<j))
abbrev jX:D->D->Option D:=fun a b=>(IQ a b).or (AM a b)
abbrev BO:=yz fun i j=>.bool (decide (i<=j))
abbrev qN:=yz fun i j=>.bool (decide (j<i))
abbrev Kc:=yz fun i j=>.bool (decide (j<=i))
theorem wR:GOp K (fun x y H Q=>∃i j,x=.str i/\y=.str j/\Q (.bl (decide (i.cps.toList<j.cps.toList))) H) AM:=by
 intro x y H Q a b d ra rb e k
 cases ra<;>cases rb<;>simp only [AM] at e<;>try cases e
 rename_i i j;exact ⟨i,j,rfl,rfl,k _ (.bl _)⟩
theorem AG:GOp K (fun x y H Q=>nX (fun i j=>.bl (decide (i<j))) x y H Q\/∃i j,x=.str i/\y=.str j/\Q (.bl (decide (i.cps.toList<j.cps.toList))) H) jX:=
 (Bu fun _ _=>.bl _).or wR
open PySem.SeqAt in
def eA (neg:Bool):D->D->Option D
 | a,.list xs=>if shaped a&&shaped (.list xs) then some (.bool (if neg then !xs.any fun y=>PyData.eqv y a else xs.any fun y=>PyData.eqv y a)) else none
 | a,.tuple xs=>if shaped a&&shaped (.tuple xs) then some (.bool (if neg then !xs.any fun y=>PyData.eqv y a else xs.any fun y=>PyData.eqv y a)) else none
 | _,_=>none
def sy (K:Fg) (neg:Bool):R2:=fun x y H Q=>∃a b d,Rep K H x a/\Rep K H y b/\eA neg a b=some (.bool d)/\Q (.bl d) H
theorem t8 {neg:Bool}:GOp K (sy K neg) (eA neg):=by
 intro x y H Q a b d ra rb e k;have:∃c,d=.bool c:=by
  cases b<;>simp only [eA] at e<;>(try cases e)<;>(split at e<;>cases e<;>exact ⟨_,rfl⟩)
 obtain ⟨c,rfl⟩:=this;exact ⟨a,b,c,ra,rb,e,k _ (.bl c)⟩
theorem FD {d:D} {xs:List D} (h:SeqAt.shaped d=true) (e:d=.list xs\/d=.tuple xs):PyData.canLayAll0 xs=true/\PyData.depthAll xs+1<=64:=by
 have h1:=SeqAt.canLay_of_shaped h
 have h2:=SeqAt.depth_of_shaped h
 rcases e with e | e<;>subst e<;>exact ⟨by simpa [PyData.canLay0] using h1,by simpa [PyData.depth] using h2⟩
section
variable {X:Cx}
theorem Ab (hu:X.A.units+64<cLine):OpR X (compareOp .In) (sy X.K false):=by
 intro pins s U H x y v u Q I rx ry h;obtain ⟨a,b,d,ra,rb,e,q⟩:=h;obtain ⟨as,r1⟩:=ra.reads I v rx;obtain ⟨bs,r2⟩:=rb.reads I u ry
 cases b<;>simp only [eA] at e<;>try cases e
 all_goals
  split at e
  ·rename_i c
   simp only [Bool.and_eq_true] at c
   simp only [Option.some.injEq,PyData.bool.injEq] at e
   subst e;first
    | (obtain ⟨p1,p2⟩:=FD c.2 (.inl rfl)
       exact SeqAt.in_list_reads r2 r1 p1 (SeqAt.canLay_of_shaped c.1) (Nat.lt_of_le_of_lt (by have:=Nat.min_le_left (PyData.depthAll ‹_›) a.depth;omega) hu) ⟨.bl _,H,I,rfl,q⟩)
    | (obtain ⟨p1,p2⟩:=FD c.2 (.inr rfl)
       exact SeqAt.in_tuple_reads r2 r1 p1 (SeqAt.canLay_of_shaped c.1) (Nat.lt_of_le_of_lt (by have:=Nat.min_le_left (PyData.depthAll ‹_›) a.depth;omega) hu) ⟨.bl _,H,I,rfl,q⟩)
  ·cases e
theorem pS (hu:X.A.units+64<cLine):OpR X (compareOp .NotIn) (sy X.K true):=by
 intro pins s U H x y v u Q I rx ry h;obtain ⟨a,b,d,ra,rb,e,q⟩:=h;obtain ⟨as,r1⟩:=ra.reads I v rx;obtain ⟨bs,r2⟩:=rb.reads I u ry
 cases b<;>simp only [eA] at e<;>try cases e
 all_goals
  split at e
  ·rename_i c
   simp only [Bool.and_eq_true] at c
   simp only [Option.some.injEq,PyData.bool.injEq] at e
   subst e;first
    | (obtain ⟨p1,p2⟩:=FD c.2 (.inl rfl)
       exact SeqAt.notIn_list_reads r2 r1 p1 (SeqAt.canLay_of_shaped c.1) (Nat.lt_of_le_of_lt (by have:=Nat.min_le_left (PyData.depthAll ‹_›) a.depth;omega) hu) ⟨.bl _,H,I,rfl,q⟩)
    | (obtain ⟨p1,p2⟩:=FD c.2 (.inr rfl)
       exact SeqAt.notIn_tuple_reads r2 r1 p1 (SeqAt.canLay_of_shaped c.1) (Nat.lt_of_le_of_lt (by have:=Nat.min_le_left (PyData.depthAll ‹_›) a.depth;omega) hu) ⟨.bl _,H,I,rfl,q⟩)
  ·cases e
end
def WantsB (K:Fg) (W:XW) (He:Hp) (O:List Addr) (Fs:List (List Addr)) (H:Hp) (U:St) (Q:Bool->Hp->Prop) (o:Out Bool):Prop:=match o with
 | .ok b Γ'=>∀H' Fs',Same H H'->EnvOk K He O Fs' H' U Γ'->(∀a∈Fs'.flatten,a∈Fs.flatten\/H a=none)->Q b H'
 | .er c Γ'=>∀H' Fs',Same H H'->EnvOk K He O Fs' H' U Γ'->W c U H'
 | .no=>False
abbrev FB:=Ev->Out Bool
def tT (K:Fg) (W:XW) (f:FB):TT:=fun U H Q=>∃He O Fs Γ,EnvOk K He O Fs H U Γ/\WantsB K W He O Fs H U Q (f Γ)
section
variable {K:Fg} {W:XW} {He H H1:Hp} {O:List Addr} {Fs Fs1:List (List Addr)} {U:St} {Γ Γ':Ev} {Q:VK} {QB:Bool->Hp->Prop}
theorem Wants.after {o:Out PV} (h:Wants K W He O Fs H U Q o) (s:Same H H1) (n:∀a∈Fs1.flatten,a∈Fs.flatten\/H a=none):Wants K W He O Fs1 H1 U Q o:=by
 cases o with
 | ok p Γ'=>exact fun v H' G Fs' A=>h v H' G Fs' ⟨s.trans A.same,A.env,fun a ha=>(A.new a ha).elim (n a) fun z=>.inr (s.free z),A.own⟩
 | er c Γ'=>exact fun H' Fs' e E=>h H' Fs' (s.trans e) E
 | no=>exact h
theorem WantsB.after {o:Out Bool} (h:WantsB K W He O Fs H U QB o) (s:Same H H1) (n:∀a∈Fs1.flatten,a∈Fs.flatten\/H a=none):WantsB K W He O Fs1 H1 U QB o:=by
 cases o with
 | ok p Γ'=>exact fun H' Fs' e E n'=>h H' Fs' (s.trans e) E fun a ha=>(n' a ha).elim (n a) fun z=>.inr (s.free z)
 | er c Γ'=>exact fun H' Fs' e E=>h H' Fs' (s.trans e) E
 | no=>exact h
theorem Aft.go {p:PV} {v:V} (A:Aft K He O Fs H U Γ' p v H1 G Fs1):EnvOk K He O Fs1 H1 U Γ':=A.env.dropL
theorem Aft.newF {p:PV} {v:V} (A:Aft K He O Fs H U Γ' p v H1 G Fs1):∀a∈Fs1.flatten,a∈Fs.flatten\/H a=none:=fun a ha=>A.new a (Ko _ ha)
end
section
variable {K:Fg} {W:XW} {U:St} {H:Hp} {Q:VK} {QB:Bool->Hp->Prop} {fa fb fc:F1} {ga gb:FB}
def bo (g:D->Option Bool) (f:F1):FB:=fun Γ=>(f Γ).bind fun p Γ'=>match g p.d with
 | some b=>.ok b Γ'
 | none=>.no
theorem nJ {g:D->Option Bool} {R:VK} (h:tT K W (bo g fa) U H QB) (hR:∀v d b H1,Rep K H1 v d->g d=some b->QB b H1->R v H1):tE K W fa U H R:=by
 obtain ⟨He,O,Fs,Γ,E,h⟩:=h;refine ⟨He,O,Fs,Γ,E,?_⟩
 unfold bo at h
 cases e:fa Γ with
 | ok p Γ'=>
  rw [e] at h;intro v H' G Fs' A
  have h:WantsB K W He O Fs H U QB (match g p.d with | some b=>.ok b Γ' | none=>.no):=h
  cases e2:g p.d with
  | some b=>
   rw [e2] at h;exact hR v p.d b H' A.own.rep e2 (h H' Fs' A.same A.go A.newF)
  | none=>rw [e2] at h;exact h.elim
 | er c Γ'=>rw [e] at h;exact h
 | no=>rw [e] at h;exact h
def aw:D->Option Bool
 | .bool b=>some b
 | _=>none
theorem nS {t:TE} (hi:∀Q,tE K W fa U H Q->t U H Q) (h:tT K W (bo aw fa) U H QB):nG t U H QB:=by
 refine hi _ (nJ h fun v d b H1 r e q=>?_)
 cases r<;>simp only [aw] at e<;>try cases e
 exact ⟨_,rfl,q⟩
def g4:D->Option Bool
 | .none=>some false
 | .bool b=>some b
 | .int i=>some (i != 0)
 | .str x=>if x.length<=sizeLine then some ((x.length:Int) != 0) else none
 | .list xs=>some (!xs.isEmpty)
 | .tuple xs=>some (!xs.isEmpty)
 | .dict _=>none
theorem zw (h:tT K W (bo g4 fa) U H QB):tE K W fa U H fun x H'=>∃k,uM K x H' k/\QB k H':=by
 refine nJ h fun v d b H1 r e q=>?_
 cases r with
 | non=>cases e;exact ⟨_,rfl,q⟩
 | bl c=>cases e;exact ⟨_,rfl,q⟩
 | int i=>cases e;exact ⟨_,rfl,q⟩
 | str x=>
  simp only [g4] at e
  split at e
  ·rename_i z;cases e;exact ⟨_,⟨z,rfl⟩,q⟩
  ·cases e
 | @lst p vs ds hq hl _=>
  cases e;exact ⟨_,.inl ⟨vs,hq,by cases vs<;>cases ds<;>simp_all⟩,q⟩
 | @tup p vs ds hq hl _=>
  cases e;exact ⟨_,.inr (.inl ⟨vs,hq,by cases vs<;>cases ds<;>simp_all⟩),q⟩
def gx (a b:FB):FB:=fun Γ=>(a Γ).bind fun c Γ'=>if c then b Γ' else .ok false Γ'
def lV (a b:FB):FB:=fun Γ=>(a Γ).bind fun c Γ'=>if c then .ok true Γ' else b Γ'
def jQ (a:FB):FB:=fun Γ=>(a Γ).bind fun c Γ'=>.ok (!c) Γ'
theorem GY {k:Bool->Ev->Out Bool} {R:Bool->Hp->Prop} (h:tT K W (fun Γ=>(ga Γ).bind k) U H QB)
  (hk:∀(He:Hp) (O:List Addr) Γ1 b H1 Fs1,Same H H1->EnvOk K He O Fs1 H1 U Γ1->WantsB K W He O Fs1 H1 U QB (k b Γ1)->R b H1):tT K W ga U H R:=by
 obtain ⟨He,O,Fs,Γ,E,h⟩:=h;have h:WantsB K W He O Fs H U QB ((ga Γ).bind k):=h
 refine ⟨He,O,Fs,Γ,E,?_⟩
 cases e:ga Γ with
 | ok b Γ1=>rw [e] at h;exact fun H' Fs' s E' n=>hk He O Γ1 b H' Fs' s E' (WantsB.after (o:=k b Γ1) h s n)
 | er c Γ1=>rw [e] at h;exact h
 | no=>rw [e] at h;exact h
theorem WantsB.now {O:List Addr} {Γ:Ev} {b:Bool} (h:WantsB K W He O Fs H U QB (.ok b Γ)) (E:EnvOk K He O Fs H U Γ):QB b H:=h H Fs (Same.refl _) E fun _ z=>.inl z
theorem vY (h:tT K W (gx ga gb) U H QB):Cz (tT K W ga) (tT K W gb) U H QB:=by
 refine GY h fun He O Γ1 b H1 Fs1 s E w=>?_
 cases b with
 | true=>exact ck ⟨He,O,Fs1,Γ1,E,w⟩
 | false=>exact cn (WantsB.now w E)
theorem zI (h:tT K W (lV ga gb) U H QB):Js (tT K W ga) (tT K W gb) U H QB:=by
 refine GY h fun He O Γ1 b H1 Fs1 s E w=>?_
 cases b with
 | false=>exact cn ⟨He,O,Fs1,Γ1,E,w⟩
 | true=>exact ck (WantsB.now w E)
theorem vX (h:tT K W (jQ ga) U H QB):zd (tT K W ga) U H QB:=GY h fun He O Γ1 b H1 Fs1 s E w=>WantsB.now w E
def lG (fa fb:F1):F1:=aU fa fun p Γ=>match p.d with
 | .bool true=>fb Γ
 | .bool false=>.ok ⟨.leaf,.bool false⟩ Γ
 | _=>.no
theorem zJ (h:tE K W (lG fa fb) U H Q):rC (tE K W fa) (tE K W fb) U H Q:=by
 refine EC h fun He O Fs Γ1 p v H1 G Fs1 nd A w=>?_
 have r:=A.own.rep
 obtain ⟨s,d⟩:=p
 cases r with
 | bl b=>
  cases b with
  | true=>exact ⟨true,rfl,ck ⟨He,O,Fs1,Γ1,A.go,Wants.after w A.same A.newF⟩⟩
  | false=>exact ⟨false,rfl,cn (Wants.scal w (.bl false) A.same A.env (fun a ha=>Ko _ ha) nd A.newF)⟩
 | _=>exact w.elim
def qh (c:FB) (fa fb:F1):F1:=fun Γ=>(c Γ).bind fun b Γ'=>if b then fa Γ' else fb Γ'
theorem CZ (h:tE K W (qh ga fa fb) U H Q):HQ (tT K W ga) (tE K W fa) (tE K W fb) U H Q:=by
 obtain ⟨He,O,Fs,Γ,E,h⟩:=h;refine ⟨He,O,Fs,Γ,E,?_⟩
 unfold qh at h
 cases e:ga Γ with
 | ok b Γ1=>
  rw [e] at h;intro H' Fs' s E' n
  have h':=Wants.after (o:=if b then fa Γ1 else fb Γ1) h s n
  cases b with
  | true=>exact ck ⟨He,O,Fs',Γ1,E',h'⟩
  | false=>exact cn ⟨He,O,Fs',Γ1,E',h'⟩
 | er c Γ1=>rw [e] at h;exact h
 | no=>rw [e] at h;exact h
def uZ (g g':D->D->Option D) (fa fb fc:F1):F1:=aU fa fun p=>aU fb fun q=>fun Γ=>match g p.d q.d with
 | some (.bool true)=>if bB q.d then (fc Γ).bind fun z Γ'=>(match g' q.d z.d with | some d=>.ok ⟨.leaf,d⟩ Γ' | none=>.no) else .no
 | some (.bool false)=>.ok ⟨.leaf,.bool false⟩ Γ
 | _=>.no
theorem kz {r r':R2} {g g':D->D->Option D} (hg:GOp K r g) (hg':GOp K r' g') (h:tE K W (uZ g g' fa fb fc) U H Q):GX r r' (tE K W fa) (tE K W fb) (tE K W fc) U H Q:=by
 refine ED h ?_
 intro He O Fs Γ2 p q v u H1 H2 G1 G2 Fs2 nd s1 s2 E new o1 o2 w;have sub:∀a∈O,a∈G2++(G1++O):=fun a ha=>Ko _ (Ko _ ha)
 have newF:∀a∈Fs2.flatten,a∈Fs.flatten\/H a=none:=fun a ha=>new a (Ko _ (Ko _ ha))
 cases e:g p.d q.d with
 | none=>rw [e] at w;exact w.elim
 | some d=>
  rw [e] at w;refine hg v u H2 _ p.d q.d d o1.rep o2.rep e fun z s=>?_
  cases s with
  | bl b=>
   cases b with
   | false=>exact ⟨false,rfl,cn (Wants.scal w (.bl false) (s1.trans s2) E sub nd newF)⟩
   | true=>
    refine ⟨true,rfl,ck ?_⟩
    have w:Wants K W He O Fs H U Q (if bB q.d then (fc Γ2).bind fun z Γ'=>(match g' q.d z.d with | some d=>.ok ⟨.leaf,d⟩ Γ' | none=>.no) else .no):=w
    cases hs:bB q.d with
    | false=>rw [hs] at w;exact w.elim
    | true=>
     rw [hs] at w;have w:Wants K W He O Fs H U Q ((fc Γ2).bind fun z Γ'=>(match g' q.d z.d with | some d=>.ok ⟨.leaf,d⟩ Γ' | none=>.no)):=w
     have su:=o2.rep.sc hs
     refine ⟨He,O,Fs2,Γ2,E.drop sub nd,?_⟩
     cases e3:fc Γ2 with
     | ok p3 Γ3=>
      rw [e3] at w;intro v3 H3 G3 Fs3 A3;have w:Wants K W He O Fs H U Q (match g' q.d p3.d with | some d=>.ok ⟨.leaf,d⟩ Γ3 | none=>.no):=w
      cases e4:g' q.d p3.d with
      | none=>rw [e4] at w;exact w.elim
      | some d4=>
       rw [e4] at w;exact hg' u v3 H3 Q q.d p3.d d4 su.rep A3.own.rep e4 fun z s=>Wants.scal w s ((s1.trans s2).trans A3.same) A3.env (fun a ha=>Ko _ ha) nd fun a ha=>(A3.new a (Ko _ ha)).elim (newF a) fun z=>.inr ((s1.trans s2).free z)
     | er c Γ3=>
      rw [e3] at w;exact fun H' Fs' s E'=>w H' Fs' ((s1.trans s2).trans s) E'
     | no=>rw [e3] at w;exact w
  | non=>exact w.elim
  | int i=>exact w.elim
  | str x=>exact w.elim
end
structure AftL (K:Fg) (He:Hp) (O:List Addr) (Fs:List (List Addr)) (H:Hp) (U:St) (Γ':Ev) (ps:List PV) (vs:List V) (H':Hp) (Gs Fs':List (List Addr)):Prop where
 same:Same H H'
 len1:vs.length=ps.length
 len2:Gs.length=ps.length
 env:EnvOk K He (Gs.flatten++O) Fs' H' U Γ'
 new:∀a∈Gs.flatten++Fs'.flatten,a∈Fs.flatten\/H a=none
 own:∀(i:Nat) v p G,vs[i]?=some v->ps[i]?=some p->Gs[i]?=some G->Own K (Gs.flatten++O++Fs'.flatten) H' p.s G v p.d
abbrev FL:=Ev->Out (List PV)
def uL (K:Fg) (W:XW) (He:Hp) (O:List Addr) (Fs:List (List Addr)) (H:Hp) (U:St) (Q:List V->Hp->Prop) (o:Out (List PV)):Prop:=match o with
 | .ok ps Γ'=>∀vs H' Gs Fs',AftL K He O Fs H U Γ' ps vs H' Gs Fs'->Q vs H'
 | .er c Γ'=>∀H' Fs',Same H H'->EnvOk K He O Fs' H' U Γ'->W c U H'
 | .no=>False
def tA (K:Fg) (W:XW) (f:FL):TA:=fun U H Q=>∃He O Fs Γ,EnvOk K He O Fs H U Γ/\uL K W He O Fs H U Q (f Γ)
def af:FL:=fun Γ=>.ok [] Γ
def aa (fa:F1) (fl:FL):FL:=fun Γ=>(fa Γ).bind fun p Γ1=>(fl Γ1).bind fun ps Γ2=>.ok (p::ps) Γ2
section
variable {K:Fg} {W:XW} {U:St} {H:Hp} {Q:VK} {QL:List V->Hp->Prop} {fa fb:F1} {fl:FL}
theorem zB (h:tA K W af U H QL):bb U H QL:=by
 obtain ⟨He,O,Fs,Γ,E,h⟩:=h;exact h [] H [] Fs ⟨Same.refl _,rfl,rfl,by simpa using E,fun a ha=>.inl (by simpa using ha),fun i v p G e=>by simp at e⟩
theorem kG (A B C:List α):(A++(B++C)).Perm (B++(A++C)):=by
 rw [<-append_assoc,<-append_assoc];exact List.Perm.append_right _ perm_append_comm
theorem EnvOk.perm {H:Hp} {O:List Addr} {Γ:Ev} (E:EnvOk K He O Fs H U Γ) (p:O'.Perm O):EnvOk K He O' Fs H U Γ:=E.drop (fun a ha=>p.mem_iff.mp ha) (p.nodup_iff.mpr E.ndO)
theorem Own.perm {H:Hp} {O:List Addr} {s:Sh} {v:V} {d:D} (h:Own K O H s G v d) (p:∀a∈O',a∈O):Own K O' H s G v d:=h.mono (Same.refl _) fun a ha=>.inl (p a ha)
theorem vV (h:tA K W (aa fa fl) U H QL):ao (tE K W fa) (tA K W fl) U H QL:=by
 obtain ⟨He,O,Fs,Γ,E,h⟩:=h;refine ⟨He,O,Fs,Γ,E,?_⟩
 unfold aa at h
 cases e:fa Γ with
 | ok p Γ1=>
  rw [e] at h;intro v H1 G1 Fs1 A1;refine ⟨He,G1++O,Fs1,Γ1,A1.env,?_⟩
  have h:uL K W He O Fs H U QL ((fl Γ1).bind fun ps Γ2=>.ok (p::ps) Γ2):=h
  cases e2:fl Γ1 with
  | ok ps Γ2=>
   rw [e2] at h;intro vs H2 Gs Fs2 A2;have pm:((G1::Gs).flatten++O).Perm (Gs.flatten++(G1++O)):=by
    rw [flatten_cons,append_assoc];exact kG _ _ _
   refine h (v::vs) H2 (G1::Gs) Fs2 ⟨A1.same.trans A2.same,by simp [A2.len1],by simp [A2.len2],A2.env.perm pm,fun a ha=>?_,fun i u q G h1 h2 h3=>?_⟩
   ·rcases Kq ha with z | z
    ·rw [flatten_cons] at z
     rcases Kq z with z | z
     ·exact A1.new a (Kp _ z)
     ·exact (A2.new a (Kp _ z)).elim (fun y=>A1.new a (Ko _ y)) fun y=>.inr (A1.same.free y)
    ·exact (A2.new a (Ko _ z)).elim (fun y=>A1.new a (Ko _ y)) fun y=>.inr (A1.same.free y)
   ·have sub:∀a∈(G1::Gs).flatten++O++Fs2.flatten,a∈Gs.flatten++(G1++O)++Fs2.flatten:=fun a ha=>by
     rcases Kq ha with z | z
     ·exact Kp _ (pm.mem_iff.mp z)
     ·exact Ko _ z
    cases i with
    | zero=>
     simp at h1 h2 h3
     subst h1 h2 h3;refine (A1.own.mono A2.same fun a ha=>?_).perm sub
     rcases Kq ha with z | z
     ·rcases Kq z with z | z
      ·exact (A2.new a (Kp _ z)).elim (fun y=>.inl (Ko _ y)) .inr
      ·exact .inl (Kp _ z)
     ·exact (A2.new a (Ko _ z)).elim (fun y=>.inl (Ko _ y)) .inr
    | succ i=>
     simp at h1 h2 h3
     exact (A2.own i u q G h1 h2 h3).perm sub
  | er c Γ2=>
   rw [e2] at h;exact fun H2 Fs2 s E2=>h H2 Fs2 (A1.same.trans s) E2.dropL
  | no=>rw [e2] at h;exact h
 | er c Γ1=>rw [e] at h;exact h
 | no=>rw [e] at h;exact h
theorem AftL.reps {O:List Addr} {Γ':Ev} {ps:List PV} (A:AftL K He O Fs H U Γ' ps vs H' Gs Fs'):Reps K H' vs (ps.map (·.d)):=by
 refine ⟨by rw [length_map];exact A.len1,fun i v d h1 h2=>?_⟩
 rw [getElem?_map] at h2
 cases e:ps[i]? with
 | none=>rw [e] at h2;cases h2
 | some p=>
  rw [e] at h2
  cases h2;have hi:=(Kw e).1
  exact (A.own i v p (Gs[i]'(by rw [A.len2];exact hi)) h1 e (Ks _)).rep
def cX (g:List D->Option D) (fl:FL):F1:=fun Γ=>(fl Γ).bind fun ps Γ'=>match g (ps.map (·.d)) with
 | some d=>.ok ⟨.leaf,d⟩ Γ'
 | none=>.no
def GCall (K:Fg) (r:List V->Hp->VK->Prop) (g:List D->Option D):Prop:=∀vs H Q ds d,Reps K H vs ds->g ds=some d->(∀v,Sc v d->Q v H)->r vs H Q
theorem yi {r:List V->Hp->VK->Prop} {g:List D->Option D} (hg:GCall K r g) (h:tE K W (cX g fl) U H Q):jV r (tA K W fl) U H Q:=by
 obtain ⟨He,O,Fs,Γ,E,h⟩:=h;refine ⟨He,O,Fs,Γ,E,?_⟩
 unfold cX at h
 cases e:fl Γ with
 | ok ps Γ'=>
  rw [e] at h;intro vs H' Gs Fs' A
  have h:Wants K W He O Fs H U Q (match g (ps.map (·.d)) with | some d=>.ok ⟨.leaf,d⟩ Γ' | none=>.no):=h
  cases e2:g (ps.map (·.d)) with
  | none=>rw [e2] at h;exact h.elim
  | some d=>
   rw [e2] at h;exact hg vs H' Q _ d A.reps e2 fun v s=>Wants.scal h s A.same A.env (fun a ha=>Ko _ ha) E.ndO fun a ha=>A.new a (Ko _ ha)
 | er c Γ'=>rw [e] at h;exact h
 | no=>rw [e] at h;exact h
theorem GCall.or {r r':List V->Hp->VK->Prop} {g g':List D->Option D} (h:GCall K r g) (h':GCall K r' g'):GCall K (fun xs H Q=>r xs H Q\/r' xs H Q) (fun ds=>(g ds).or (g' ds)):=by
 intro vs H Q ds d rs e k;have e:(g ds).or (g' ds)=some d:=e
 cases e1:g ds with
 | some z=>rw [e1] at e;cases e;exact .inl (h vs H Q ds _ rs e1 k)
 | none=>rw [e1] at e;exact .inr (h' vs H Q ds d rs (by simpa using e) k)
theorem Reps.one {d:D} (h:Reps K H vs [d]):∃v,vs=[v]/\Rep K H v d:=by
 obtain ⟨hl,h⟩:=h;match vs,hl with
 | [v],_=>exact ⟨v,rfl,h 0 v d rfl rfl⟩
theorem Reps.two {d e:D} (h:Reps K H vs [d,e]):∃v u,vs=[v,u]/\Rep K H v d/\Rep K H u e:=by
 obtain ⟨hl,h⟩:=h;match vs,hl with
 | [v,u],_=>exact ⟨v,u,rfl,h 0 v d rfl rfl,h 1 u e rfl rfl⟩
end
def yy:List D->Option D
 | [.list xs]=>some (.int xs.length)
 | [.tuple xs]=>some (.int xs.length)
 | _=>none
def ub:List D->Option D
 | [.str x]=>if x.length<=sizeLine then some (.int x.length) else none
 | _=>none
abbrev bZ:List D->Option D:=fun ds=>(yy ds).or (ub ds)
theorem AJ:GCall K (fun xs H Q=>(∃p ys,xs=[.ref p]/\(SqL K H p ys\/SqT K H p ys)/\Q (.int ys.length) H)\/∃z,xs=[.str z]/\z.length<=sizeLine/\Q (.int z.length) H) bZ:=by
 refine GCall.or (g:=yy) (g':=ub) (r:=fun xs H Q=>∃p ys,xs=[.ref p]/\(SqL K H p ys\/SqT K H p ys)/\Q (.int ys.length) H) (r':=fun xs H Q=>∃z,xs=[.str z]/\z.length<=sizeLine/\Q (.int z.length) H) ?_ ?_
 ·intro vs H Q ds d rs e k
  match ds,e with
  | [.list xs],e=>
   obtain ⟨v,rfl,r⟩:=rs.one
   cases e
   cases r with
   | @lst p us _ hq hl _=>exact ⟨p,us,rfl,.inl hq,by rw [hl];exact k _ (.int _)⟩
  | [.tuple xs],e=>
   obtain ⟨v,rfl,r⟩:=rs.one
   cases e
   cases r with
   | @tup p us _ hq hl _=>exact ⟨p,us,rfl,.inr hq,by rw [hl];exact k _ (.int _)⟩
 ·intro vs H Q ds d rs e k
  match ds,e with
  | [.str x],e=>
   obtain ⟨v,rfl,r⟩:=rs.one;simp only [ub] at e
   split at e
   ·rename_i z
    cases e
    cases r;exact ⟨x,rfl,z,k _ (.int _)⟩
   ·cases e
def uc:List D->Option D
 | [.int i]=>some (.int i)
 | [.bool b]=>some (.int (if b then 1 else 0))
 | _=>none
theorem AK:GCall K (fun xs H Q=>(∃i,xs=[.int i]/\Q (.int i) H)\/∃k,xs=[.bl k]/\Q (.int (if k then 1 else 0)) H) uc:=by
 intro vs H Q ds d rs e k;match ds,e with
 | [.int i],e=>
  obtain ⟨v,rfl,r⟩:=rs.one
  cases e;cases r;exact .inl ⟨i,rfl,k _ (.int _)⟩
 | [.bool b],e=>
  obtain ⟨v,rfl,r⟩:=rs.one
  cases e;cases r;exact .inr ⟨b,rfl,k _ (.int _)⟩
def Kb:List D->Option D
 | [.int i,.int j]=>some (.int (if j>i then j else i))
 | _=>none
def vm:List D->Option (List Bool)
 | []=>some []
 | .bool b::r=>(vm r).map (b :: ·)
 | _=>none
theorem hU:∀{ds:List D} {bs:List Bool},vm ds=some bs->ds=bs.map PyData.bool
 | [],bs,h=>by cases h;rfl
 | .bool b::r,bs,h=>by
  simp only [vm] at h
  cases e:vm r with
  | none=>rw [e] at h;cases h
  | some cs=>rw [e] at h;cases h;rw [hU e];rfl
 | .none::_,_,h=>by cases h
 | .int _::_,_,h=>by cases h
 | .str _::_,_,h=>by cases h
 | .list _::_,_,h=>by cases h
 | .tuple _::_,_,h=>by cases h
 | .dict _::_,_,h=>by cases h
def iy (any:Bool):List D->Option D
 | [.list xs]=>(vm xs).map fun bs=>.bool (if any then bs.any id else bs.all id)
 | _=>none
theorem gL {K:Fg} {H:Hp}:∀{vs:List V} {bs:List Bool},Reps K H vs (bs.map PyData.bool)->vs=bs.map V.bl
 | [],[],_=>rfl
 | v::vs,b::bs,⟨hl,h⟩=>by
  have r:=h 0 v (.bool b) rfl rfl
  cases r;rw [gL (bs:=bs) (vs:=vs) ⟨by simpa using hl,fun i v d h1 h2=>h (i+1) v d (by simpa using h1) (by simpa using h2)⟩]
  rfl
 | [],_::_,⟨hl,_⟩=>by simp at hl
 | _::_,[],⟨hl,_⟩=>by simp at hl
def eo (K:Fg) (any:Bool):List V->Hp->VK->Prop:=fun xs H Q=>∃(p:Addr) (bs:List Bool),xs=[.ref p]/\SqL K H p (bs.map V.bl)/\Q (.bl (if any then bs.any id else bs.all id)) H
theorem AL {any:Bool}:GCall K (eo K any) (iy any):=by
 intro vs H Q ds d rs e k;match ds,e with
 | [.list xs],e=>
  obtain ⟨v,rfl,r⟩:=rs.one;simp only [iy] at e
  cases eb:vm xs with
  | none=>rw [eb] at e;cases e
  | some bs=>
   rw [eb] at e
   cases e;have:=hU eb
   subst this
   cases r with
   | @lst p us _ hq hl hr=>
    have:=gL ⟨hl,hr⟩
    subst this;exact ⟨p,bs,rfl,hq,k _ (.bl _)⟩
section
variable {X:Cx}
theorem jf:∀{its:List Value},Vals (bs.map V.bl) its->its=bs.map Value.bool:=by
 induction bs with
 | nil=>intro its h;cases h;rfl
 | cons b bs ih=>
  intro its h
  cases h with
  | cons r t=>
   cases (show _=Value.bool b from r)
   rw [ih t];rfl
theorem pL (bs:List Bool):(List.range bs.length).all (fun i=>bs.getD i false)=bs.all id:=by
 rw [Bool.eq_iff_iff,all_eq_true,all_eq_true];constructor
 ·intro h b hb
  obtain ⟨i,hi,e⟩:=List.mem_iff_getElem.mp hb;have:=h i (List.mem_range.mpr hi)
  rw [Kt,Ks hi] at this;rw [<-e];simpa using this
 ·intro h i hi
  have hi:=List.mem_range.mp hi
  rw [Kt,Ks hi];exact h _ (getElem_mem hi)
theorem pK (bs:List Bool):(List.range bs.length).any (fun i=>bs.getD i false)=bs.any id:=by
 rw [Bool.eq_iff_iff,any_eq_true,any_eq_true];constructor
 ·rintro ⟨i,hi,h⟩
  have hi:=List.mem_range.mp hi
  rw [Kt,Ks hi] at h;exact ⟨_,getElem_mem hi,h⟩
 ·rintro ⟨b,hb,h⟩
  obtain ⟨i,hi,e⟩:=List.mem_iff_getElem.mp hb;refine ⟨i,List.mem_range.mpr hi,?_⟩
  rw [Kt,Ks hi,e];exact h
theorem fH {prog:Program} {w:World}:TruthOf prog w A (fun i v=>(bs.map Value.bool).toArray[i]?=some v) (fun i=>bs.getD i false):=by
 intro i v s Q E hP hQ;simp only [getElem?_toArray,getElem?_map] at hP
 cases e:bs[i]? with
 | none=>rw [e] at hP;cases hP
 | some b=>
  rw [e] at hP
  cases hP;have hQ:Q (bs.getD i false) s:=hQ
  rw [Kt,e] at hQ;exact wpAny_truthy_bool hQ
theorem Fj (hc:X.calm=true):CallR X (.builtin "all") (eo X.K false):=by
 intro pins s U H vs us Q I rv h;obtain ⟨p,bs,rfl,hq,q⟩:=h;obtain ⟨u,rfl,ru⟩:=vals1 rv
 cases ru;obtain ⟨its,rv,pl,hz⟩:=I.list hq;have:=jf rv
 subst this;have hd:=I.ok.hd hc
 refine call_all_walk (wpAny_pyIter_list pl.isList ?_)
 have ne:p≠s.heap.objs.size:=by
  obtain ⟨o,n,e,_⟩:=pl;exact Nat.ne_of_lt (Heap.lt_size e)
 refine ⟨s.heap.objs.size,_,_,_,_,_,fun i=>bs.getD i false,rfl,Walks.list (prog:=X.prog) (w:=X.w) (A:=X.A.in1) hd s.heap.objs.size p ne (bs.map Value.bool).toArray,⟨⟨_,Heap.get?_push_size _ rfl,rfl,rfl⟩,pl.isList.at fun o e=>Kz _ e⟩,fH,fun h' tk hk=>?_⟩
 refine ⟨.bl _,H,I.kept (h':=h') (t':=tk) fun b o e=>hk b o (fun z=>?_) (Kz _ e),rfl,?_⟩
 ·have z:b=s.heap.objs.size:=by simpa using z
  exact absurd (Heap.lt_size e) (by rw [z];exact Nat.lt_irrefl _)
 ·rw [size_toArray,length_map,pL]
  exact q
theorem qA (hc:X.calm=true):CallR X (.builtin "any") (eo X.K true):=by
 intro pins s U H vs us Q I rv h;obtain ⟨p,bs,rfl,hq,q⟩:=h;obtain ⟨u,rfl,ru⟩:=vals1 rv
 cases ru;obtain ⟨its,rv,pl,hz⟩:=I.list hq;have:=jf rv
 subst this;have hd:=I.ok.hd hc
 refine call_any_walk (wpAny_pyIter_list pl.isList ?_)
 have ne:p≠s.heap.objs.size:=by
  obtain ⟨o,n,e,_⟩:=pl;exact Nat.ne_of_lt (Heap.lt_size e)
 refine ⟨s.heap.objs.size,_,_,_,_,_,fun i=>bs.getD i false,rfl,Walks.list (prog:=X.prog) (w:=X.w) (A:=X.A.in1) hd s.heap.objs.size p ne (bs.map Value.bool).toArray,⟨⟨_,Heap.get?_push_size _ rfl,rfl,rfl⟩,pl.isList.at fun o e=>Kz _ e⟩,fH,fun h' tk hk=>?_⟩
 refine ⟨.bl _,H,I.kept (h':=h') (t':=tk) fun b o e=>hk b o (fun z=>?_) (Kz _ e),rfl,?_⟩
 ·have z:b=s.heap.objs.size:=by simpa using z
  exact absurd (Heap.lt_size e) (by rw [z];exact Nat.lt_irrefl _)
 ·rw [size_toArray,length_map,pK]
  exact q
end
def ma (s:Sh) (j:Nat) (d:D):Option Sh:=match s with
 | .leaf=>some .leaf
 | .view=>some (if bB d then .leaf else .view)
 | .lst s=>some s
 | .tup ss=>ss[j]?
def ak (fa fb:F1):F1:=aU fa fun p=>aU fb fun q=>fun Γ=>match q.d with
 | .int i=>(match p.d with
  | .list ds=>(match fQ ds.length i with
   | some j=>(match ds[j]? with
    | some d=>(match ma p.s j d with
     | some s=>.ok ⟨s,d⟩ Γ
     | none=>.no)
    | none=>.no)
   | none=>.no)
  | .tuple ds=>(match fQ ds.length i with
   | some j=>(match ds[j]? with
    | some d=>(match ma p.s j d with
     | some s=>.ok ⟨s,d⟩ Γ
     | none=>.no)
    | none=>.no)
   | none=>.no)
  | .str z=>if z.length<=sizeLine then (match eD z.cps.toList i with
   | some c=>.ok ⟨.leaf,.str ⟨#[c]⟩⟩ Γ
   | none=>.no) else .no
  | _=>.no)
 | _=>.no
theorem Own.item {O:List Addr} {H:Hp} {s s':Sh} {p:Addr} {ds:List D} {j:Nat} {d:D} (h:Own K O H s G (.ref p) (.list ds)) (hd:ds[j]?=some d) (hs:ma s j d=some s') :
  ∃vs v G',SqL K H p vs/\vs.length=ds.length/\vs[j]?=some v/\(∀a∈G',a∈G)/\G'.Nodup/\Own K O H s' G' v d:=by
 have hi:=(Kw hd).1
 cases h with
 | view r=>
  cases r with
  | @lst _ vs _ hq hl hr=>
   have hv:vs[j]?=some (vs[j]'(by omega)):=Ks _
   have r':=hr j _ d hv hd
   simp only [ma,Option.some.injEq] at hs
   cases e:bB d with
   | true=>
    rw [e] at hs
    cases hs;exact ⟨vs,_,[],hq,hl,hv,(fun _ z=>nomatch z),nodup_nil,.leaf (r'.sc e).rep⟩
   | false=>
    rw [e] at hs
    cases hs;exact ⟨vs,_,[],hq,hl,hv,(fun _ z=>nomatch z),nodup_nil,.view r'⟩
 | leaf r=>
  cases r with
  | @lst _ vs _ hq hl hr=>
   have hv:vs[j]?=some (vs[j]'(by omega)):=Ks _
   cases hs;exact ⟨vs,_,[],hid_le.seq hq,hl,hv,(fun _ z=>nomatch z),nodup_nil,.leaf (hr j _ d hv hd)⟩
 | @lst s₀ _ vs _ Fs hv hp hl hf nd hr=>
  have hv':vs[j]?=some (vs[j]'(by omega)):=Ks _
  have hF:Fs[j]?=some (Fs[j]'(by omega)):=Ks _
  cases hs;refine ⟨vs,_,_,.of hp,hl,hv',fun a ha=>Ku _ (ia hF ha),?_,hr j _ d _ hv' hd hF⟩
  exact ((List.nodup_cons.mp nd).2).sublist (List.sublist_flatten_of_mem (mem_of_getElem? hF))
theorem Own.itemT {O:List Addr} {H:Hp} {s s':Sh} {p:Addr} {ds:List D} {j:Nat} {d:D} (h:Own K O H s G (.ref p) (.tuple ds)) (hd:ds[j]?=some d) (hs:ma s j d=some s') :
  ∃vs v G',SqT K H p vs/\vs.length=ds.length/\vs[j]?=some v/\(∀a∈G',a∈G)/\G'.Nodup/\Own K O H s' G' v d:=by
 have hi:=(Kw hd).1
 cases h with
 | view r=>
  cases r with
  | @tup _ vs _ hq hl hr=>
   have hv:vs[j]?=some (vs[j]'(by omega)):=Ks _
   have r':=hr j _ d hv hd
   simp only [ma,Option.some.injEq] at hs
   cases e:bB d with
   | true=>
    rw [e] at hs
    cases hs;exact ⟨vs,_,[],hq,hl,hv,(fun _ z=>nomatch z),nodup_nil,.leaf (r'.sc e).rep⟩
   | false=>
    rw [e] at hs
    cases hs;exact ⟨vs,_,[],hq,hl,hv,(fun _ z=>nomatch z),nodup_nil,.view r'⟩
 | leaf r=>
  cases r with
  | @tup _ vs _ hq hl hr=>
   have hv:vs[j]?=some (vs[j]'(by omega)):=Ks _
   cases hs;exact ⟨vs,_,[],aV hid_le hq,hl,hv,(fun _ z=>nomatch z),nodup_nil,.leaf (hr j _ d hv hd)⟩
 | @tup ss _ vs _ Fs hv hp hn hl hf hl2 nd hr=>
  have hv':vs[j]?=some (vs[j]'(by omega)):=Ks _
  have hF:Fs[j]?=some (Fs[j]'(by omega)):=Ks _
  have hs:ss[j]?=some s':=hs
  refine ⟨vs,_,_,.of hp,hl,hv',fun a ha=>ia hF ha,?_,hr j _ d _ _ hv' hd hF hs⟩
  exact nd.sublist (List.sublist_flatten_of_mem (mem_of_getElem? hF))
theorem Wants.part {W:XW} {H:Hp} {O G':List Addr} {Γ':Ev} {Q:VK} {s:Sh} {v:V} {d:D} (h:Wants K W He O Fs H U Q (.ok ⟨s,d⟩ Γ')) (e:Same H H2)
  (E:EnvOk K He (G++O) Fs2 H2 U Γ') (sub:∀a∈G',a∈G) (nd:G'.Nodup) (new:∀a∈G++Fs2.flatten,a∈Fs.flatten\/H a=none) (o:Own K (G++O++Fs2.flatten) H2 s G' v d):Q v H2:=by
 have sub2:∀a∈G'++O,a∈G++O:=fun a ha=>by
  rcases Kq ha with z | z
  ·exact Kp _ (sub a z)
  ·exact Ko _ z
 obtain ⟨n1,n2,n3⟩:=Kv E.ndO;refine h v H2 G' Fs2 ⟨e,E.drop sub2 (List.nodup_append.mpr ⟨nd,n2,fun a ha b hb=>n3 a (sub a ha) b hb⟩),fun a ha=>new a ?_,o.perm fun a ha=>?_⟩
 ·rcases Kq ha with z | z
  ·exact Kp _ (sub a z)
  ·exact Ko _ z
 ·rcases Kq ha with z | z
  ·exact Kp _ (sub2 a z)
  ·exact Ko _ z
theorem uG {β:Type} {xs:List α} {ys:List β} {i:Int} {j:Nat} {v:α} (hl:xs.length=ys.length) (h:fQ ys.length i=some j) (hv:xs[j]?=some v):eD xs i=some v:=by
 unfold eD;rw [hl,h];exact hv
section
variable {K:Fg} {W:XW} {U:St} {H:Hp} {Q:VK} {fa fb:F1}
theorem zD (h:tE K W (ak fa fb) U H Q):rz (Dd K) (tE K W fa) (tE K W fb) U H Q:=by
 refine ED h ?_
 intro He O Fs Γ2 p q v u H1 H2 G1 G2 Fs2 nd s1 s2 E new o1 o2 w;obtain ⟨ps,pd⟩:=p;obtain ⟨qs,qd⟩:=q;have ri:=o2.rep
 cases qd<;>try exact w.elim
 rename_i i
 cases ri;have E':EnvOk K He ((G2++G1)++O) Fs2 H2 U Γ2:=by rw [append_assoc];exact E
 have new':∀a∈(G2++G1)++Fs2.flatten,a∈Fs.flatten\/H a=none:=fun a ha=>new a (by rw [<-append_assoc];exact ha)
 have o1':Own K ((G2++G1)++O++Fs2.flatten) H2 ps G1 v pd:=o1.perm fun a ha=>by rw [append_assoc G2] at ha;exact ha
 have rp:=o1.rep
 cases pd with
 | list ds=>
  obtain ⟨p0,rfl⟩:∃p0,v=.ref p0:=by cases rp;exact ⟨_,rfl⟩
  have w:Wants K W He O Fs H U Q (match fQ ds.length i with | some j=>(match ds[j]? with | some d=>(match ma ps j d with | some s=>.ok ⟨s,d⟩ Γ2 | none=>.no) | none=>.no) | none=>.no):=w
  cases e1:fQ ds.length i with
  | none=>rw [e1] at w;exact w.elim
  | some j=>
   rw [e1] at w;have w:Wants K W He O Fs H U Q (match ds[j]? with | some d=>(match ma ps j d with | some s=>.ok ⟨s,d⟩ Γ2 | none=>.no) | none=>.no):=w
   cases e2:ds[j]? with
   | none=>rw [e2] at w;exact w.elim
   | some d=>
    rw [e2] at w;have w:Wants K W He O Fs H U Q (match ma ps j d with | some s=>.ok ⟨s,d⟩ Γ2 | none=>.no):=w
    cases e3:ma ps j d with
    | none=>rw [e3] at w;exact w.elim
    | some s=>
     rw [e3] at w;obtain ⟨vs,v',G',h1,h2,h3,h4,h5,h6⟩:=o1'.item e2 e3
     exact .inl ⟨p0,vs,i,v',rfl,rfl,h1,uG h2 e1 h3,Wants.part w (s1.trans s2) E' (fun a ha=>Ko _ (h4 a ha)) h5 new' h6⟩
 | tuple ds=>
  obtain ⟨p0,rfl⟩:∃p0,v=.ref p0:=by cases rp;exact ⟨_,rfl⟩
  have w:Wants K W He O Fs H U Q (match fQ ds.length i with | some j=>(match ds[j]? with | some d=>(match ma ps j d with | some s=>.ok ⟨s,d⟩ Γ2 | none=>.no) | none=>.no) | none=>.no):=w
  cases e1:fQ ds.length i with
  | none=>rw [e1] at w;exact w.elim
  | some j=>
   rw [e1] at w;have w:Wants K W He O Fs H U Q (match ds[j]? with | some d=>(match ma ps j d with | some s=>.ok ⟨s,d⟩ Γ2 | none=>.no) | none=>.no):=w
   cases e2:ds[j]? with
   | none=>rw [e2] at w;exact w.elim
   | some d=>
    rw [e2] at w;have w:Wants K W He O Fs H U Q (match ma ps j d with | some s=>.ok ⟨s,d⟩ Γ2 | none=>.no):=w
    cases e3:ma ps j d with
    | none=>rw [e3] at w;exact w.elim
    | some s=>
     rw [e3] at w;obtain ⟨vs,v',G',h1,h2,h3,h4,h5,h6⟩:=o1'.itemT e2 e3
     exact .inr (.inl ⟨p0,vs,i,v',rfl,rfl,h1,uG h2 e1 h3,Wants.part w (s1.trans s2) E' (fun a ha=>Ko _ (h4 a ha)) h5 new' h6⟩)
 | str z=>
  cases rp;have w:Wants K W He O Fs H U Q (if z.length<=sizeLine then (match eD z.cps.toList i with | some c=>.ok ⟨.leaf,.str ⟨#[c]⟩⟩ Γ2 | none=>.no) else .no):=w
  by_cases hz:z.length<=sizeLine
  ·rw [if_pos hz] at w
   cases e1:eD z.cps.toList i with
   | none=>rw [e1] at w;exact w.elim
   | some c=>
    rw [e1] at w;exact .inr (.inr ⟨z,i,c,rfl,rfl,hz,e1,Wants.scal w (.str _) (s1.trans s2) E (fun a ha=>Ko _ (Ko _ ha)) nd fun a ha=>new a (Ko _ (Ko _ ha))⟩)
  ·rw [if_neg hz] at w
   exact w.elim
 | none=>exact w.elim
 | bool b=>exact w.elim
 | int k=>exact w.elim
 | dict k=>exact w.elim
end
theorem ll (s:Sh):∀Gs:List (List Addr),((Gs.map (aF s)).flatten).Sublist Gs.flatten
 | []=>List.Sublist.refl _
 | G::Gs=>by
  simp only [map_cons,flatten_cons]
  refine List.Sublist.append ?_ (ll s Gs)
  unfold aF;split
  ·exact nil_sublist _
  ·exact List.Sublist.refl _
theorem iZ:∀Gs:List (List Addr),(Gs.map (aF .leaf)).flatten=[]
 | []=>rfl
 | _::Gs=>by simp only [map_cons,flatten_cons,iZ Gs];rfl
section
variable {K:Fg} {W:XW} {U:St} {He H H':Hp} {O:List Addr} {Fs Fs' Gs:List (List Addr)} {Γ':Ev} {ps:List PV} {vs:List V} {Q:VK}
theorem AftL.newList {s:Sh} {p:Addr} (A:AftL K He O Fs H U Γ' ps vs H' Gs Fs') (hs:s.isView=false) (hc:ps.all (T.coer s)=true) (hp:H' p=none) :
  Aft K He O Fs H U Γ' ⟨.lst s,.list (ps.map (·.d))⟩ (.ref p) (upd H' p (.lst vs)) (p::(Gs.map (aF s)).flatten) Fs':=by
 obtain ⟨n1,n2,n3⟩:=Kv A.env.ndO;obtain ⟨m1,m2,m3⟩:=Kv A.env.nd;have hsub:=ll s Gs
 have E1:EnvOk K He ((Gs.map (aF s)).flatten++O) Fs' H' U Γ':=A.env.drop (fun a ha=>by
   rcases Kq ha with z | z
   ·exact Kp _ (hsub.subset z)
   ·exact Ko _ z) (List.nodup_append.mpr ⟨n1.sublist hsub,n2,fun a ha b hb=>n3 a (hsub.subset ha) b hb⟩)
 have E2:=E1.hide (G:=[p]) (cb (o:=.lst vs) hp) (by simp) (fun a ha=>by simp at ha;rw [ha];exact hp) (fun a ha=>by simp at ha;rw [ha,bL];exact Option.some_ne_none _)
 have pn:∀{a},a∈Gs.flatten++O++Fs'.flatten->a≠p:=fun {a} ha z=>A.env.inH a ha (by rw [z];exact hp)
 refine ⟨A.same.trans (cb hp),E2,fun a ha=>?_,?_⟩
 ·rcases Kq ha with z | z
  ·rcases Kr z with z | z
   ·rw [z];exact .inr (A.same.free hp)
   ·exact A.new a (Kp _ (hsub.subset z))
  ·exact A.new a (Ko _ z)
 ·refine .lst hs bL (by rw [length_map];exact A.len1) (by rw [length_map,length_map];exact A.len2) ?_ fun i v d F h1 h2 h3=>?_
  ·refine List.nodup_cons.mpr ⟨fun z=>pn (Kp _ (Kp _ (hsub.subset z))) rfl,n1.sublist hsub⟩
  ·rw [getElem?_map] at h2 h3
   cases e2:ps[i]? with
   | none=>rw [e2] at h2;cases h2
   | some q=>
    cases e3:Gs[i]? with
    | none=>rw [e3] at h3;cases h3
    | some G=>
     rw [e2] at h2;rw [e3] at h3
     cases h2
     cases h3;have cq:T.coer s q=true:=List.all_eq_true.mp hc q (mem_of_getElem? e2)
     have o1:=(A.own i v q G h1 e2 e3).mono (O':=p::(Gs.flatten++O++Fs'.flatten)) (cb (o:=.lst vs) hp) fun a ha=>by
      rcases Kr ha with z | z
      ·rw [z];exact .inr hp
      ·exact .inl z
     refine o1.coer cq (fun a ha=>?_) fun a ha hO=>?_
     ·rw [append_assoc] at ha
      rcases Kq ha with z | z
      ·rcases Kr z with z | z
       ·rw [z];exact mem_cons_self
       ·exact Ku _ (Kp _ (Kp _ (hsub.subset z)))
      ·rcases Kq z with z | z
       ·exact Ku _ (Kp _ (Ko _ z))
       ·exact Ku _ (Ko _ z)
     ·have hG:a∈Gs.flatten:=ia e3 ha
      cases s with
      | leaf=>
       rw [iZ] at hO;exfalso
       rw [append_assoc] at hO;rcases Kq hO with z | z
       ·have z:a=p:=by simpa using z
        exact pn (Kp _ (Kp _ hG)) z
       ·rcases Kq z with z | z
        ·exact n3 a hG a z rfl
        ·exact m3 a (Kp _ hG) a z rfl
      | view=>cases hs
      | lst s=>exact ha
      | tup ss=>exact ha
def bz (s:Sh) (fl:FL):F1:=fun Γ=>(fl Γ).bind fun ps Γ'=>if !s.isView&&ps.all (T.coer s)&&decide (ps.length<=sizeLine) then .ok ⟨.lst s,.list (ps.map (·.d))⟩ Γ' else .no
theorem vR {s:Sh} {fl:FL} (h:tE K W (bz s fl) U H Q):pj (tA K W fl) U H Q:=by
 obtain ⟨He,O,Fs,Γ,E,h⟩:=h;refine ⟨He,O,Fs,Γ,E,?_⟩
 unfold bz at h
 cases e:fl Γ with
 | ok ps Γ'=>
  rw [e] at h;intro vs H' Gs Fs' A
  have h:Wants K W He O Fs H U Q (if (!s.isView&&ps.all (T.coer s)&&decide (ps.length<=sizeLine))=true then .ok ⟨.lst s,.list (ps.map (·.d))⟩ Γ' else .no):=h
  by_cases hc:(!s.isView&&ps.all (T.coer s)&&decide (ps.length<=sizeLine))=true
  ·rw [if_pos hc] at h
   simp only [Bool.and_eq_true,decide_eq_true_eq,Bool.not_eq_true'] at hc
   exact ⟨by rw [A.len1];exact hc.2,fun p hp=>h _ _ _ _ (A.newList hc.1.1 hc.1.2 hp)⟩
  ·rw [if_neg hc] at h
   exact h.elim
 | er c Γ'=>rw [e] at h;exact h
 | no=>rw [e] at h;exact h
def y7 (p:PV):Sh:=if p.s.isView then .leaf else p.s
def tok (p:PV):Bool:=!p.s.isView||bB p.d
theorem AftL.newTup {p:Addr} (A:AftL K He O Fs H U Γ' ps vs H' Gs Fs') (hc:ps.all tok=true) (hp:H' p=none) :
  Aft K He O Fs H U Γ' ⟨.tup (ps.map y7),.tuple (ps.map (·.d))⟩ (.ref p) (upd H' p (.tup vs)) Gs.flatten Fs':=by
 obtain ⟨n1,n2,n3⟩:=Kv A.env.ndO;have pn:p∉Gs.flatten++O++Fs'.flatten:=fun ha=>A.env.inH p ha hp
 refine ⟨A.same.trans (cb hp),A.env.grow (cb hp),A.new,?_⟩
 refine .tup (fun s hs=>?_) bL pn (by rw [length_map];exact A.len1) (by rw [length_map];exact A.len2) (by rw [length_map,length_map]) n1 fun i v d F s h1 h2 h3 h4=>?_
 ·obtain ⟨q,_,rfl⟩:=List.mem_map.mp hs
  unfold y7;split
  ·rfl
  ·rename_i z;simpa using z
 ·rw [getElem?_map] at h2 h4
  cases e2:ps[i]? with
  | none=>rw [e2] at h2;cases h2
  | some q=>
   rw [e2] at h2 h4
   cases h2
   cases h4;have cq:tok q=true:=List.all_eq_true.mp hc q (mem_of_getElem? e2)
   have o1:=(A.own i v q F h1 e2 h3).mono (O':=Gs.flatten++O++Fs'.flatten) (cb (o:=.tup vs) hp) fun a ha=>.inl ha
   unfold y7
   cases hv:q.s.isView with
   | false=>exact o1
   | true=>
    unfold tok at cq;rw [hv] at cq;obtain ⟨s,d⟩:=q
    cases s with
    | view=>
     cases o1 with
     | view r=>exact .leaf (r.sc (by simpa using cq)).rep
    | _=>cases hv
def cy (fl:FL):F1:=fun Γ=>(fl Γ).bind fun ps Γ'=>if ps.all tok&&decide (ps.length<=sizeLine) then .ok ⟨.tup (ps.map y7),.tuple (ps.map (·.d))⟩ Γ' else .no
theorem zv {fl:FL} (h:tE K W (cy fl) U H Q):jq (tA K W fl) U H Q:=by
 obtain ⟨He,O,Fs,Γ,E,h⟩:=h;refine ⟨He,O,Fs,Γ,E,?_⟩
 unfold cy at h
 cases e:fl Γ with
 | ok ps Γ'=>
  rw [e] at h;intro vs H' Gs Fs' A
  have h:Wants K W He O Fs H U Q (if (ps.all tok&&decide (ps.length<=sizeLine))=true then .ok ⟨.tup (ps.map y7),.tuple (ps.map (·.d))⟩ Γ' else .no):=h
  by_cases hc:(ps.all tok&&decide (ps.length<=sizeLine))=true
  ·rw [if_pos hc] at h
   simp only [Bool.and_eq_true,decide_eq_true_eq] at hc
   exact ⟨by rw [A.len1];exact hc.2,fun p hp=>h _ _ _ _ (A.newTup hc.1 hp)⟩
  ·rw [if_neg hc] at h
   exact h.elim
 | er c Γ'=>rw [e] at h;exact h
 | no=>rw [e] at h;exact h
end
def d9 (p:PV) (ds:List D):Bool:=!p.s.isView||ds.all bB
theorem Own.items {O:List Addr} {H:Hp} {s:Sh} {v:V} {ds:List D} (h:Own K O H s G v (.list ds)) (hc:d9 ⟨s,.list ds⟩ ds=true) (h1:∀a∈O',a∈O) (h2:∀a∈G,a∉O') :
  ∃p vs,v=.ref p/\SqL K H p vs/\(s.isView=false->SqL K (aC H O') p vs)/\Reps K (aC H O') vs ds:=by
 have hr:=h.rep
 cases hv:s.isView with
 | false=>
  have r:=h.freeze hv h1 h2
  cases r with
  | @lst p vs _ hq hl hr=>exact ⟨p,vs,rfl,hid_le.seq hq,fun _=>hq,hl,hr⟩
 | true=>
  unfold d9 at hc;have hc:ds.all bB=true:=by simpa [hv] using hc
  cases hr with
  | @lst p vs _ hq hl hr=>exact ⟨p,vs,rfl,hq,nofun,hl,fun i v d e1 e2=>((hr i v d e1 e2).sc (List.all_eq_true.mp hc d (mem_of_getElem? e2))).rep⟩
theorem Own.itemsT {O:List Addr} {H:Hp} {s:Sh} {v:V} {ds:List D} (h:Own K O H s G v (.tuple ds)) (hc:d9 ⟨s,.tuple ds⟩ ds=true) (h1:∀a∈O',a∈O) (h2:∀a∈G,a∉O') :
  ∃p vs,v=.ref p/\SqT K H p vs/\(s.isView=false->SqT K (aC H O') p vs)/\Reps K (aC H O') vs ds:=by
 have hr:=h.rep
 cases hv:s.isView with
 | false=>
  have r:=h.freeze hv h1 h2
  cases r with
  | @tup p vs _ hq hl hr=>exact ⟨p,vs,rfl,aV hid_le hq,fun _=>hq,hl,hr⟩
 | true=>
  unfold d9 at hc;have hc:ds.all bB=true:=by simpa [hv] using hc
  cases hr with
  | @tup p vs _ hq hl hr=>exact ⟨p,vs,rfl,hq,nofun,hl,fun i v d e1 e2=>((hr i v d e1 e2).sc (List.all_eq_true.mp hc d (mem_of_getElem? e2))).rep⟩
theorem EX {H:Hp} {O:List Addr} {Γ1:Ev} {ds:List D} {p:Addr} (E:EnvOk K He O Fs1 H1 U Γ1) (s:Same H H1) (n:∀a∈Fs1.flatten,a∈Fs.flatten\/H a=none)
  (hr:Reps K (aC H1 (O++Fs1.flatten)) vs ds) (hp:H1 p=none):Aft K He O Fs H U Γ1 ⟨.lst .leaf,.list ds⟩ (.ref p) (upd H1 p (.lst vs)) [p] Fs1:=by
 have E2:=E.hide (G:=[p]) (cb (o:=.lst vs) hp) (by simp) (fun a ha=>by simp at ha;rw [ha];exact hp) (fun a ha=>by simp at ha;rw [ha,bL];exact Option.some_ne_none _)
 refine ⟨s.trans (cb hp),E2,fun a ha=>?_,?_⟩
 ·rcases Kq ha with z | z
  ·have z:a=p:=by simpa using z
   rw [z];exact .inr (s.free hp)
  ·exact n a z
 ·have fl:(List.replicate ds.length ([]:List Addr)).flatten=[]:=by simp
  have:[p]=p::(List.replicate ds.length ([]:List Addr)).flatten:=by rw [fl]
  rw [this];refine .lst rfl bL hr.1 (by simp) (by rw [fl];simp) fun i v d F h1 h2 h3=>?_
  rw [getElem?_replicate] at h3;split at h3
  ·cases h3
   refine .leaf ((hr.2 i v d h1 h2).mono (dW (cb hp) fun a ha=>?_))
   rw [fl] at ha;rcases Kq ha with z | z
   ·rcases Kq z with z | z
    ·have z:a=p:=by simpa using z
     rw [z];exact .inr hp
    ·exact .inl (Kp _ z)
   ·exact .inl (Ko _ z)
  ·cases h3
def qJ (fa:F1):F1:=aU fa fun p Γ=>match p.d with
 | .list ds=>if d9 p ds then .ok ⟨.lst .leaf,.list ds⟩ Γ else .no
 | .tuple ds=>if d9 p ds then .ok ⟨.lst .leaf,.list ds⟩ Γ else .no
 | _=>.no
section
variable {K:Fg} {W:XW} {U:St} {H:Hp} {Q:VK} {fa fb:F1}
theorem Aft.disj {O:List Addr} {Γ1:Ev} {p:PV} {v:V} (A:Aft K He O Fs H U Γ1 p v H1 G Fs1):∀a∈G,a∉O++Fs1.flatten:=fun a ha z=>by
 have nd:=A.env.nd
 rw [append_assoc] at nd;exact (Kv nd).2.2 a ha a z rfl
theorem js {O:List Addr}:∀a∈O++F,a∈G++O++F:=fun a ha=>by
 rw [append_assoc];exact Ko _ ha
theorem pI (h:tE K W (qJ fa) U H Q):jV (fun xs H Q=>∃p ys,xs=[.ref p]/\(SqL K H p ys\/SqT K H p ys)/\∀l,H l=none->Q (.ref l) (upd H l (.lst ys))) (tA K W (aa fa af)) U H Q:=by
 have h1:tE K W fa U H fun x H1=>∃p ys,x=.ref p/\(SqL K H1 p ys\/SqT K H1 p ys)/\∀l,H1 l=none->Q (.ref l) (upd H1 l (.lst ys)):=by
  refine EC h fun He O Fs Γ1 p v H1 G Fs1 nd A w=>?_
  obtain ⟨s,d⟩:=p
  cases d with
  | list ds=>
   have w:Wants K W He O Fs H U Q (if d9 ⟨s,.list ds⟩ ds then .ok ⟨.lst .leaf,.list ds⟩ Γ1 else .no):=w
   cases hc:d9 ⟨s,.list ds⟩ ds with
   | false=>rw [hc] at w;exact w.elim
   | true=>
    rw [hc] at w;obtain ⟨p,vs,rfl,hq,_,hr⟩:=A.own.items (O':=O++Fs1.flatten) hc js A.disj
    exact ⟨p,vs,rfl,.inl hq,fun l hl=>w _ _ _ _ (EX A.go A.same A.newF hr hl)⟩
  | tuple ds=>
   have w:Wants K W He O Fs H U Q (if d9 ⟨s,.tuple ds⟩ ds then .ok ⟨.lst .leaf,.list ds⟩ Γ1 else .no):=w
   cases hc:d9 ⟨s,.tuple ds⟩ ds with
   | false=>rw [hc] at w;exact w.elim
   | true=>
    rw [hc] at w;obtain ⟨p,vs,rfl,hq,_,hr⟩:=A.own.itemsT (O':=O++Fs1.flatten) hc js A.disj
    exact ⟨p,vs,rfl,.inr hq,fun l hl=>w _ _ _ _ (EX A.go A.same A.newF hr hl)⟩
  | _=>exact w.elim
 obtain ⟨He,O,Fs,Γ,E,h1⟩:=h1;refine ⟨He,O,Fs,Γ,E,?_⟩
 unfold aa af
 cases e:fa Γ with
 | ok p Γ'=>
  rw [e] at h1;intro vs H' Gs Fs' A
  match vs,Gs,A.len1,A.len2 with
  | [v],[G],_,_=>
   have A':Aft K He O Fs H U Γ' p v H' G Fs':=⟨A.same,by simpa using A.env,by simpa using A.new,by simpa using A.own 0 v p G rfl rfl rfl⟩
   obtain ⟨q,ys,rfl,h2,h3⟩:=h1 v H' G Fs' A'
   exact ⟨q,ys,rfl,h2,h3⟩
 | er c Γ'=>rw [e] at h1;exact h1
 | no=>rw [e] at h1;exact h1
end
structure Bl (J:It) (P:Hp->Prop) (vs:List V):Prop where
 go:∀(i:Nat) H v,P H->vs[i]?=some v->J.go i H/\∀x H',J.yld i H x H'->H'=H/\x=v
 stop:∀H,P H->J.stop vs.length H
theorem wQ:Bl (Bk K a) (fun H=>SqL K H a vs) vs:=
 ⟨fun i H v hp hv=>⟨⟨vs,v,hp,hv⟩,fun x H' ⟨e,q⟩=>⟨e,Option.some.inj ((q vs hp).symm.trans hv)⟩⟩,fun H hp=>⟨vs,hp,KA _⟩⟩
def jy (lo:Int) (n:Nat):List V:=(List.range n).map fun i=>.int (lo+(i:Nat))
def b6 (lo:Int) (n:Nat):List D:=(List.range n).map fun i=>.int (lo+(i:Nat))
theorem tX {lo:Int}:Bl (vf lo n) (fun _=>True) (jy lo n):=by
 refine ⟨fun i H v _ hv=>?_,fun H _=>?_⟩
 ·unfold jy at hv
  rw [getElem?_map] at hv
  cases e:(List.range n)[i]? with
  | none=>rw [e] at hv;cases hv
  | some k=>
   rw [e] at hv;obtain ⟨h1,h2⟩:=Kw e
   simp at h1 h2
   subst h2
   cases hv;exact ⟨h1,fun x H' ⟨q1,q2⟩=>⟨q1,q2⟩⟩
 ·show n<=(jy lo n).length
  simp [jy]
theorem kr {H:Hp} {lo:Int}:Reps K H (jy lo n) (b6 lo n):=by
 refine ⟨by simp [jy,b6],fun i v d h1 h2=>?_⟩
 unfold jy at h1;unfold b6 at h2;rw [getElem?_map] at h1 h2
 cases e:(List.range n)[i]? with
 | none=>rw [e] at h1;cases h1
 | some k=>
  rw [e] at h1 h2
  cases h1
  cases h2;exact .int _
structure Jc where
 ds:List D
 st:Bool
abbrev FI:=Ev->Out Jc
def EF (K:Fg) (W:XW) (He:Hp) (O:List Addr) (Fs:List (List Addr)) (H:Hp) (U:St) (R:It->Hp->Prop) (o:Out Jc):Prop:=match o with
 | .ok t Γ'=>∀J H' Fs' vs P,Same H H'->EnvOk K He O Fs' H' U Γ'->(∀a∈Fs'.flatten,a∈Fs.flatten\/H a=none)->Bl J P vs->P H'->(∀H2,Same H' H2->P H2)->(t.st=true->∀H2,Same (aC H' Fs'.flatten) H2->P H2) ->
   Reps K (aC H' (O++Fs'.flatten)) vs t.ds->R J H'
 | .er c Γ'=>∀H' Fs',Same H H'->EnvOk K He O Fs' H' U Γ'->W c U H'
 | .no=>False
def tI (K:Fg) (W:XW) (f:FI):TI:=fun U H R=>∃He O Fs Γ,EnvOk K He O Fs H U Γ/\EF K W He O Fs H U R (f Γ)
theorem uO {t t':TI} (h:PI X tg iter t) (i:∀U H R,t' U H R->t U H R):PI X tg iter t':=fun pins s U H R I q=>h pins s U H R I (i U H R q)
def bA (fa:F1):FI:=fun Γ=>(fa Γ).bind fun p Γ'=>match p.d with
 | .list ds=>if d9 p ds then .ok ⟨ds,!p.s.isView⟩ Γ' else .no
 | _=>.no
section
variable {K:Fg} {W:XW} {U:St} {H:Hp} {R:It->Hp->Prop} {fa fb:F1}
theorem sub_hid {H:Hp} {O:List Addr}:Same (aC H (O++F)) (aC H F):=dW (Same.refl _) fun a ha=>.inl (Ko _ ha)
theorem vS (h:tI K W (bA fa) U H R):bf K (tE K W fa) U H R:=by
 obtain ⟨He,O,Fs,Γ,E,h⟩:=h;refine ⟨He,O,Fs,Γ,E,?_⟩
 unfold bA at h
 cases e:fa Γ with
 | ok p Γ1=>
  rw [e] at h;intro v H1 G Fs1 A;obtain ⟨s,d⟩:=p
  cases d with
  | list ds=>
   have h:EF K W He O Fs H U R (if d9 ⟨s,.list ds⟩ ds then .ok ⟨ds,!s.isView⟩ Γ1 else .no):=h
   cases hc:d9 ⟨s,.list ds⟩ ds with
   | false=>rw [hc] at h;exact h.elim
   | true=>
    rw [hc] at h;obtain ⟨p,vs,rfl,hq,hst,hr⟩:=A.own.items (O':=O++Fs1.flatten) hc js A.disj
    exact ⟨p,rfl,⟨vs,hq⟩,h (Bk K p) H1 Fs1 vs (fun H=>SqL K H p vs) A.same A.go A.newF wQ hq (fun H2 s2=>s2.seq hq) (fun ht H2 s2=>s2.seq (sub_hid.seq (hst (by simpa using ht)))) hr⟩
  | _=>exact h.elim
 | er c Γ'=>rw [e] at h;exact h
 | no=>rw [e] at h;exact h
def dC (j:Int):Bool:=decide (-(2 ^ 62)<=j)&&decide (j<2 ^ 62)
def pH:List D->Option Int
 | [.int j]=>if dC j then some j else none
 | _=>none
def pG:List D->Option (Int×Int)
 | [.int i,.int j]=>if dC i&&dC j then some (i,j) else none
 | _=>none
theorem vK {ds:List D} {j:Int} (h:pH ds=some j):ds=[.int j]/\-(2 ^ 62)<=j/\j<2 ^ 62:=by
 unfold pH at h;split at h
 ·split at h
  ·rename_i hc
   cases h;simp only [dC,Bool.and_eq_true,decide_eq_true_eq] at hc
   exact ⟨rfl,hc.1,hc.2⟩
  ·cases h
 ·cases h
theorem vJ {ds:List D} {i j:Int} (h:pG ds=some (i,j)):ds=[.int i,.int j]/\(-(2 ^ 62)<=i/\i<2 ^ 62/\-(2 ^ 62)<=j/\j<2 ^ 62):=by
 unfold pG at h;split at h
 ·split at h
  ·rename_i hc
   cases h;simp only [dC,Bool.and_eq_true,decide_eq_true_eq] at hc
   exact ⟨rfl,hc.1.1,hc.1.2,hc.2.1,hc.2.2⟩
  ·cases h
 ·cases h
def gm (fl:FL):FI:=fun Γ=>(fl Γ).bind fun ps Γ'=>match pH (ps.map (·.d)) with
 | some j=>.ok ⟨b6 0 j.toNat,true⟩ Γ'
 | none=>.no
def yx (fl:FL):FI:=fun Γ=>(fl Γ).bind fun ps Γ'=>match pG (ps.map (·.d)) with
 | some (i,j)=>.ok ⟨b6 i (j-i).toNat,true⟩ Γ'
 | none=>.no
theorem zF {fl:FL} (h:tI K W (gm fl) U H R):gZ (tA K W fl) U H R:=by
 obtain ⟨He,O,Fs,Γ,E,h⟩:=h;refine ⟨He,O,Fs,Γ,E,?_⟩
 unfold gm at h
 cases e:fl Γ with
 | ok ps Γ1=>
  rw [e] at h;intro vs H1 Gs Fs1 A;have h:EF K W He O Fs H U R (match pH (ps.map (·.d)) with | some j=>.ok ⟨b6 0 j.toNat,true⟩ Γ1 | none=>.no):=h
  have rs:=A.reps
  cases e1:pH (ps.map (·.d)) with
  | none=>rw [e1] at h;exact h.elim
  | some j=>
   rw [e1] at h;obtain ⟨e2,h1,h2⟩:=vK e1;rw [e2] at rs;obtain ⟨v,rfl,r⟩:=rs.one
   cases r;exact ⟨j,rfl,h1,h2,h (vf 0 j.toNat) H1 Fs1 (jy 0 j.toNat) (fun _=>True) A.same A.env.dropL (fun a ha=>A.new a (Ko _ ha)) tX trivial (fun _ _=>trivial) (fun _ _ _=>trivial) kr⟩
 | er c Γ'=>rw [e] at h;exact h
 | no=>rw [e] at h;exact h
theorem zE {fl:FL} (h:tI K W (yx fl) U H R):yw (tA K W fl) U H R:=by
 obtain ⟨He,O,Fs,Γ,E,h⟩:=h;refine ⟨He,O,Fs,Γ,E,?_⟩
 unfold yx at h
 cases e:fl Γ with
 | ok ps Γ1=>
  rw [e] at h;intro vs H1 Gs Fs1 A;have h:EF K W He O Fs H U R (match pG (ps.map (·.d)) with | some (i,j)=>.ok ⟨b6 i (j-i).toNat,true⟩ Γ1 | none=>.no):=h
  have rs:=A.reps
  cases e1:pG (ps.map (·.d)) with
  | none=>rw [e1] at h;exact h.elim
  | some ij=>
   obtain ⟨i,j⟩:=ij;rw [e1] at h;obtain ⟨e2,hb⟩:=vJ e1;rw [e2] at rs;obtain ⟨v,u,rfl,r,r'⟩:=rs.two
   cases r
   cases r'
   exact ⟨i,j,rfl,hb,h (vf i (j-i).toNat) H1 Fs1 (jy i (j-i).toNat) (fun _=>True) A.same A.env.dropL (fun a ha=>A.new a (Ko _ ha)) tX trivial (fun _ _=>trivial) (fun _ _ _=>trivial) kr⟩
 | er c Γ'=>rw [e] at h;exact h
 | no=>rw [e] at h;exact h
end
def o9 (i:Nat) (fc:FB) (fe:F1) (s:Sh):List D->Ev->List D->Out (List D)
 | [],Γ,acc=>.ok acc Γ
 | d::r,Γ,acc=>match fc (Γ.set i (KD d)) with
  | .ok true Γ1=>(match fe Γ1 with
   | .ok p Γ2=>if T.coer s p&&decide (acc.length<sizeLine) then o9 i fc fe s r (Γ2.set i none) (acc++[p.d]) else .no
   | _=>.no)
  | .ok false Γ1=>if acc.length<sizeLine then o9 i fc fe s r (Γ1.set i none) acc else .no
  | _=>.no
def aG (s:Sh) (i:Nat) (fi:FI) (fc:FB) (fe:F1):F1:=fun Γ=>(fi Γ).bind fun t Γ1=>match o9 i fc fe s t.ds (Γ1.set i none) [] with
 | .ok ds Γ2=>if !s.isView&&decide (i<Γ1.length) then .ok ⟨.lst s,.list ds⟩ (Γ2.set i (Γ1.getD i none)) else .no
 | _=>.no
abbrev W0:XW:=fun _ _ _=>False
section
variable {K:Fg} {He H H1 H2:Hp} {O G:List Addr} {Fs Fs1 Fs2:List (List Addr)} {U:St} {Γ Γ1 Γ2:Ev}
theorem G4 {is:List Nat} {j:Nat} (h:j∉is):(aD is U)[j]?=U[j]?:=by
 unfold aD;rw [List.getElem?_mapIdx]
 cases U[j]? with
 | none=>rfl
 | some o=>simp [h]
theorem FC {Γ:Ev} {i j:Nat} {p:PV} (h:(Γ.set i none)[j]?=some (some p)):j≠i/\Γ[j]?=some (some p):=by
 by_cases hj:j=i
 ·subst hj
  rw [List.getElem?_set] at h;split at h
  ·split at h<;>cases h
  ·rename_i z;exact absurd rfl z
 ·rw [getElem?_set_ne (Ne.symm hj)] at h
  exact ⟨hj,h⟩
theorem EnvOk.shut {i:Nat} (E:EnvOk K He O Fs H U Γ) (hi:i<Γ.length) :
  ∃F,Fs[i]?=some F/\EnvOk K He (F++O) (Fs.set i []) H (aD [i] U) (Γ.set i none)/\∀a,a∈F++(Fs.set i []).flatten↔a∈Fs.flatten:=by
 obtain ⟨F,hF⟩:=E.lt hi;have pm:(F++(Fs.set i []).flatten).Perm Fs.flatten:=by simpa using mm (G:=[]) hF
 have pm2:(F++O++(Fs.set i []).flatten).Perm (O++Fs.flatten):=by
  rw [append_assoc];exact (kG _ _ _).trans (List.Perm.append_left _ pm)
 refine ⟨F,hF,⟨by rw [xU,length_set];exact E.len1,by rw [length_set,length_set];exact E.len2,E.same,pm2.nodup_iff.mpr E.nd,fun a ha=>E.inH a (pm2.mem_iff.mp ha),fun a ha=>E.fresh a (pm.mem_iff.mp (Ko _ ha)),fun j q hq=>?_⟩,fun a=>pm.mem_iff⟩
 obtain ⟨hj,hq⟩:=FC hq;obtain ⟨w1,v',F',e1,e2,e3⟩:=E.slot j q hq;exact ⟨w1,v',F',by rw [G4 (by simpa using hj)];exact e1,by rw [getElem?_set_ne (Ne.symm hj)];exact e2,e3.mono (Same.refl _) fun a ha=>.inl (pm2.mem_iff.mp ha)⟩
theorem EnvOk.forget {i:Nat} {x:Option V} (E:EnvOk K He O Fs H ((aD [i] U).set i x) Γ) (hi:i<Γ.length):EnvOk K He O (Fs.set i []) H (aD [i] U) (Γ.set i none):=by
 obtain ⟨F,hF⟩:=E.lt hi;have pm:(F++(Fs.set i []).flatten).Perm Fs.flatten:=by simpa using mm (G:=[]) hF
 have sub:∀a∈O++(Fs.set i []).flatten,a∈O++Fs.flatten:=fun a ha=>by
  rcases Kq ha with z | z
  ·exact Kp _ z
  ·exact Ko _ (pm.mem_iff.mp (Ko _ z))
 have l1:=E.len1
 rw [length_set] at l1;obtain ⟨n1,n2,n3⟩:=Kv E.nd;have n4:((Fs.set i []).flatten).Nodup:=(Kv (pm.nodup_iff.mpr n2)).2.1
 refine ⟨by rw [length_set];exact l1,by rw [length_set,length_set];exact E.len2,E.same,List.nodup_append.mpr ⟨n1,n4,fun a ha b hb=>n3 a ha b (pm.mem_iff.mp (Ko _ hb))⟩,fun a ha=>E.inH a (sub a ha),fun a ha=>E.fresh a (pm.mem_iff.mp (Ko _ ha)),fun j q hq=>?_⟩
 obtain ⟨hj,hq⟩:=FC hq;obtain ⟨w1,v',F',e1,e2,e3⟩:=E.slot j q hq;rw [getElem?_set_ne (Ne.symm hj)] at e1;exact ⟨w1,v',F',e1,by rw [getElem?_set_ne (Ne.symm hj)];exact e2,e3.mono (Same.refl _) fun a ha=>.inl (sub a ha)⟩
theorem EnvOk.reopen {i:Nat} (E1:EnvOk K He O Fs1 H1 U Γ1) (hF:Fs1[i]?=some F) (E2:EnvOk K He (G++(F++O)) Fs2 H2 (aD [i] U) Γ2) (hl:Γ2.length=Γ1.length) (s:Same H1 H2)
  (hn:Γ2[i]?=some none) (hF2:Fs2[i]?=some []) (new:∀a∈G++Fs2.flatten,a∈Fs1.flatten\/H1 a=none):EnvOk K He (G++O) (Fs2.set i F) H2 U (Γ2.set i (Γ1.getD i none)):=by
 have pm:((Fs2.set i F).flatten).Perm (F++Fs2.flatten):=by simpa using mm (G:=F) hF2
 have pm2:(G++O++(Fs2.set i F).flatten).Perm (G++(F++O)++Fs2.flatten):=by
  refine (List.Perm.append_left _ pm).trans ?_
  rw [append_assoc,append_assoc];refine List.Perm.append_left _ ?_
  rw [append_assoc];exact kG _ _ _
 have hi:i<Γ2.length:=(Kw hn).1
 refine ⟨by rw [length_set,hl];exact E1.len1,by rw [length_set,length_set];exact E2.len2,E2.same,pm2.nodup_iff.mpr E2.nd,fun a ha=>E2.inH a (pm2.mem_iff.mp ha),fun a ha=>?_,fun j q hq=>?_⟩
 ·rcases Kq (pm.mem_iff.mp ha) with z | z
  ·exact E1.fresh a (ia hF z)
  ·exact E2.fresh a z
 ·by_cases hj:j=i
  ·subst hj
   rw [getElem?_set_self hi] at hq;have hq:Γ1.getD j none=some q:=Option.some.inj hq
   rw [Kt] at hq;have hq':Γ1[j]?=some (some q):=by
    cases e:Γ1[j]? with
    | none=>rw [e] at hq;cases hq
    | some o=>rw [e] at hq;simp only [Option.getD_some] at hq;rw [hq]
   obtain ⟨w1,v',F',e1,e2,e3⟩:=E1.slot j q hq'
   rw [hF] at e2
   cases e2;refine ⟨w1,v',F,e1,getElem?_set_self (by rw [E2.len2];exact hi),e3.mono s fun a ha=>?_⟩
   rcases Kq ha with z | z
   ·rcases Kq z with z | z
    ·exact (new a (Kp _ z)).elim (fun y=>.inl (Ko _ y)) .inr
    ·exact .inl (Kp _ z)
   ·rcases Kq (pm.mem_iff.mp z) with y | y
    ·exact .inl (Ko _ (ia hF y))
    ·exact (new a (Ko _ y)).elim (fun y=>.inl (Ko _ y)) .inr
  ·rw [getElem?_set_ne (Ne.symm hj)] at hq
   obtain ⟨w1,v',F',e1,e2,e3⟩:=E2.slot j q hq;rw [G4 (by simpa using hj)] at e1
   exact ⟨w1,v',F',e1,by rw [getElem?_set_ne (Ne.symm hj)];exact e2,e3.mono (Same.refl _) fun a ha=>.inl (pm2.mem_iff.mp ha)⟩
theorem EnvOk.mutO {p:Addr} {xs:List V} (E:EnvOk K He O Fs H U Γ) (hp:p∈O) (hl:H p=some (.lst xs)) (hn:He p=none):EnvOk K He O Fs (upd H p o) U Γ:=by
 obtain ⟨n1,n2,n3⟩:=Kv E.nd;refine ⟨E.len1,E.len2,fun b u e=>?_,E.nd,fun a ha=>?_,E.fresh,fun j q hq=>?_⟩
 ·rw [bw (u6 e hn)]
  exact E.same b u e
 ·by_cases h:a=p
  ·rw [h,bL];exact Option.some_ne_none _
  ·rw [bw h];exact E.inH a ha
 ·obtain ⟨w1,v',F',e1,e2,e3⟩:=E.slot j q hq
  exact ⟨w1,v',F',e1,e2,e3.mut w1 (Kp _ hp) (fun z=>n3 p hp p (ia e2 z) rfl) hl⟩
end
structure Je (K:Fg) (He:Hp) (O F:List Addr) (Fs1:List (List Addr)) (H1:Hp) (U:St) (i:Nat) (s:Sh) (A0:Addr) (n:Nat) (ys:List V) (H:Hp) (Γk:Ev) (Fk Gs:List (List Addr)) (acc:List D):Prop where
 env:EnvOk K He (A0::Gs.flatten++(F++O)) Fk H (aD [i] U) Γk
 same:Same H1 H
 at_:H A0=some (.lst ys)
 new:∀a∈Gs.flatten++Fk.flatten,a∈Fs1.flatten\/H1 a=none
 l1:ys.length=acc.length
 l2:Gs.length=acc.length
 own:∀(j:Nat) v d G,ys[j]?=some v->acc[j]?=some d->Gs[j]?=some G->Own K (A0::Gs.flatten++(F++O)++Fk.flatten) H s G v d
 noneG:Γk[i]?=some none
 noneF:Fk[i]?=some []
 len:Γk.length=n
theorem vo (Gs:List (List α)) (G:List α):(Gs++[G]).flatten=Gs.flatten++G:=by simp
section
variable {K:Fg} {W:XW} {U:St} {H:Hp} {Q:VK} {fe:F1} {fc:FB} {fi:FI} {s:Sh} {i:Nat}
theorem nU (h:tE K W (aG s i fi fc fe) U H Q):bJ [i] (tI K W fi) (av i) (tT K W0 fc) (tE K W0 fe) U H Q:=by
 obtain ⟨He,O,Fs,Γ,E,h⟩:=h;refine ⟨He,O,Fs,Γ,E,?_⟩
 unfold aG at h
 cases e:fi Γ with
 | er c Γ'=>rw [e] at h;exact h
 | no=>rw [e] at h;exact h
 | ok t Γ1=>
  rw [e] at h;intro J H1 Fs1 vs P s1 E1 n1 it hP hP1 _ hr A0 hD;have h:Wants K W He O Fs H U Q (match o9 i fc fe s t.ds (Γ1.set i none) [] with | .ok ds Γ2=>if !s.isView&&decide (i<Γ1.length) then .ok ⟨.lst s,.list ds⟩ (Γ2.set i (Γ1.getD i none)) else .no | _=>.no):=h
  cases eg:o9 i fc fe s t.ds (Γ1.set i none) [] with
  | er c Γ'=>rw [eg] at h;exact h.elim
  | no=>rw [eg] at h;exact h.elim
  | ok ds' Γ2=>
   rw [eg] at h;have h:Wants K W He O Fs H U Q (if (!s.isView&&decide (i<Γ1.length))=true then .ok ⟨.lst s,.list ds'⟩ (Γ2.set i (Γ1.getD i none)) else .no):=h
   by_cases hc:(!s.isView&&decide (i<Γ1.length))=true
   case neg=>rw [if_neg hc] at h;exact h.elim
   rw [if_pos hc] at h;simp only [Bool.and_eq_true,decide_eq_true_eq,Bool.not_eq_true'] at hc
   obtain ⟨hsv,hi⟩:=hc;obtain ⟨F,hF,E0,hmem⟩:=E1.shut hi;have hHeD:He A0=none:=E1.same.free hD
   have E0':EnvOk K He (A0::([]:List (List Addr)).flatten++(F++O)) (Fs1.set i []) (upd H1 A0 (.lst [])) (aD [i] U) (Γ1.set i none):=
    E0.hide (G:=[A0]) (cb hD) (by simp) (fun a ha=>by simp at ha;rw [ha];exact hD) (fun a ha=>by simp at ha;rw [ha,bL];exact Option.some_ne_none _)
   refine ⟨fun k m ys H'=>m=vs.length-k/\k<=vs.length/\∃Γk Fk Gs acc,Je K He O F Fs1 H1 U i s A0 Γ1.length ys H' Γk Fk Gs acc/\o9 i fc fe s (t.ds.drop k) Γk acc=.ok ds' Γ2,⟨vs.length,by simp,Nat.zero_le _,Γ1.set i none,Fs1.set i [],[],[],⟨E0',cb hD,bL,fun a ha=>.inl ((hmem a).mp (Ko _ (by simpa using ha))),rfl,rfl,fun j v d G h1=>by simp at h1,getElem?_set_self hi,getElem?_set_self (by rw [E1.len2];exact hi),by rw [length_set]⟩,by simpa using eg⟩,?_⟩
   rintro k m ys H' ⟨rfl,hk,Γk,Fk,Gs,acc,g,eg'⟩
   refine ⟨g.at_,?_⟩
   have hPk:P H':=hP1 H' g.same
   have hlen:vs.length=t.ds.length:=hr.1
   by_cases hlt:k<vs.length
   case neg=>
    have hke:k=vs.length:=by omega
    left
    have:t.ds.drop k=[]:=drop_eq_nil_of_le (by omega)
    rw [this] at eg';have eg'':(Out.ok acc Γk:Out (List D))=.ok ds' Γ2:=eg'
    injection eg'' with e1 e2
    subst e1;subst e2;refine ⟨by rw [hke];exact it.stop H' hPk,?_⟩
    have E3:EnvOk K He ((A0::Gs.flatten)++O) (Fk.set i F) H' U (Γk.set i (Γ1.getD i none)):=
     EnvOk.reopen (G:=A0::Gs.flatten) E1 hF g.env g.len g.same g.noneG g.noneF fun a ha=>by
      rcases Kq ha with z | z
      ·rcases Kr z with z | z
       ·rw [z];exact .inr hD
       ·exact g.new a (Kp _ z)
      ·exact g.new a (Ko _ z)
    have pmF:((Fk.set i F).flatten).Perm (F++Fk.flatten):=by simpa using mm (G:=F) g.noneF
    obtain ⟨n1',_,n3'⟩:=Kv g.env.ndO;refine h (.ref A0) H' (A0::Gs.flatten) (Fk.set i F) ⟨s1.trans g.same,E3,fun a ha=>?_,?_⟩
    ·have up:a∈Fs1.flatten\/H1 a=none->a∈Fs.flatten\/H a=none:=fun z=>z.elim (n1 a) fun y=>.inr (s1.free y)
     rcases Kq ha with z | z
     ·rcases Kr z with z | z
      ·exact up (.inr (by rw [z];exact hD))
      ·exact up (g.new a (Kp _ z))
     ·rcases Kq (pmF.mem_iff.mp z) with y | y
      ·exact up (.inl (ia hF y))
      ·exact up (g.new a (Ko _ y))
    ·refine .lst hsv g.at_ g.l1 g.l2 n1' fun j v d G h1 h2 h3=>(g.own j v d G h1 h2 h3).perm fun a ha=>?_
     rw [append_assoc] at ha ⊢;rcases Kq ha with z | z
     ·exact Kp _ z
     ·refine Ko _ ?_
      rcases Kq z with z | z
      ·exact Kp _ (Ko _ z)
      ·rcases Kq (pmF.mem_iff.mp z) with y | y
       ·exact Kp _ (Kp _ y)
       ·exact Ko _ y
   case pos=>
    right
    have hv:vs[k]?=some vs[k]:=Ks hlt
    have hkd:k<t.ds.length:=by omega
    have hd:t.ds[k]?=some t.ds[k]:=Ks hkd
    have hdr:t.ds.drop k=t.ds[k]::t.ds.drop (k+1):=drop_eq_getElem_cons hkd
    rw [hdr] at eg';generalize hdk:t.ds[k]=d at hd eg'
    generalize hvk:vs[k]=v at hv
    obtain ⟨hgo,hyld⟩:=it.go k H' v hPk hv
    simp only [o9] at eg'
    have hik:i<Γk.length:=by rw [g.len];exact hi
    have rep:Rep K (aC H' (A0::Gs.flatten++(F++O)++Fk.flatten)) v d:=(hr.2 k v d hv hd).mono (dW g.same fun a ha=>by
     rcases Kq ha with z | z
     ·rcases Kq z with z | z
      ·rcases Kr z with z | z
       ·rw [z];exact .inr hD
       ·exact (g.new a (Kp _ z)).elim (fun y=>.inl (Ko _ y)) .inr
      ·rcases Kq z with z | z
       ·exact .inl (Ko _ (ia hF z))
       ·exact .inl (Kp _ z)
     ·exact (g.new a (Ko _ z)).elim (fun y=>.inl (Ko _ y)) .inr)
    have Ep:EnvOk K He (A0::Gs.flatten++(F++O)) (Fk.set i []) H' ((aD [i] U).set i (some v)) (Γk.set i (KD d)):=
     EnvOk.put (G:=[]) (p:=⟨.leaf,d⟩) (v:=v) g.env (.leaf rep) rfl (fun a ha=>by simp at ha) hik
    have hsl:ys.length<sizeLine:=by
     rw [g.l1]
     cases ec:fc (Γk.set i (KD d)) with
     | no=>rw [ec] at eg';cases eg'
     | er c Γ'=>rw [ec] at eg';cases eg'
     | ok b Γa=>
      rw [ec] at eg'
      cases b with
      | false=>
       dsimp only at eg'
       split at eg'
       ·assumption
       ·cases eg'
      | true=>
       dsimp only at eg'
       split at eg'
       ·split at eg'
        ·rename_i z
         simp only [Bool.and_eq_true,decide_eq_true_eq] at z
         exact z.2
        ·cases eg'
       ·cases eg'
    refine ⟨hgo,hsl,fun x Hx hx=>?_⟩
    obtain ⟨rfl,rfl⟩:=hyld x Hx hx;show Ga (aD [i] U) ((aD [i] U).set i (some x))/\_
    refine ⟨⟨by rw [length_set],fun j u hj=>?_⟩,?_⟩
    ·have:=(Cc hj).1
     rw [getElem?_set_ne (by simp at this;exact fun z=>this z.symm)]
     exact hj
    refine ⟨He,_,_,_,Ep,?_⟩
    cases ec:fc (Γk.set i (KD d)) with
    | no=>rw [ec] at eg';cases eg'
    | er c Γ'=>rw [ec] at eg';cases eg'
    | ok b Γa=>
     rw [ec] at eg';intro H3 Fs3 s3 E3 n3;have lena:Γa.length=Γ1.length:=by
      have:=E3.len1
      rw [length_set,xU,E1.len1] at this;exact this.symm
     have n3':∀a∈Fs3.flatten,a∈Fs1.flatten\/H1 a=none:=fun a ha=>(n3 a ha).elim (fun z=>by
      have pm:((Fk.set i []).flatten).Perm Fk.flatten:=by simpa using mm (G:=[]) g.noneF
      exact g.new a (Ko _ (pm.mem_iff.mp z))) fun z=>.inr (g.same.free z)
     cases b with
     | false=>
      dsimp only at eg'
      split at eg'
      case isFalse=>cases eg'
      refine cn ⟨vs.length-(k+1),by omega,rfl,hlt,Γa.set i none,Fs3.set i [],Gs,acc,⟨E3.forget (by rw [lena];exact hi),g.same.trans s3,s3 _ _ g.at_,fun a ha=>?_,g.l1,g.l2,fun j v d G h1 h2 h3=>(g.own j v d G h1 h2 h3).mono s3 fun a ha=>?_,getElem?_set_self (by rw [lena];exact hi),getElem?_set_self (by rw [E3.len2,lena];exact hi),by rw [length_set];exact lena⟩,eg'⟩
      ·rcases Kq ha with z | z
       ·exact g.new a (Kp _ z)
       ·obtain ⟨F3,hF3⟩:=E3.lt (i:=i) (by rw [lena];exact hi)
        have pm:(F3++(Fs3.set i []).flatten).Perm Fs3.flatten:=by simpa using mm (G:=[]) hF3
        exact n3' a (pm.mem_iff.mp (Ko _ z))
      ·rcases Kq ha with z | z
       ·exact .inl (Kp _ z)
       ·obtain ⟨F3,hF3⟩:=E3.lt (i:=i) (by rw [lena];exact hi)
        have pm:(F3++(Fs3.set i []).flatten).Perm Fs3.flatten:=by simpa using mm (G:=[]) hF3
        have pm2:((Fk.set i []).flatten).Perm Fk.flatten:=by simpa using mm (G:=[]) g.noneF
        exact (n3 a (pm.mem_iff.mp (Ko _ z))).elim (fun y=>.inl (Ko _ (pm2.mem_iff.mp y))) .inr
     | true=>
      refine ck ⟨He,_,_,_,E3,?_⟩
      dsimp only at eg'
      cases ee:fe Γa with
      | no=>rw [ee] at eg';cases eg'
      | er c Γ'=>rw [ee] at eg';cases eg'
      | ok p Γb=>
       rw [ee] at eg';dsimp only at eg'
       split at eg'
       case isFalse=>cases eg'
       rename_i hco;simp only [Bool.and_eq_true,decide_eq_true_eq] at hco
       obtain ⟨hco,_⟩:=hco;intro u H4 G Fs4 A4;have lenb:Γb.length=Γ1.length:=by
        have:=A4.env.len1
        rw [length_set,xU,E1.len1] at this;exact this.symm
       have hib:i<Γb.length:=by rw [lenb];exact hi
       have at4:H4 A0=some (.lst ys):=A4.same _ _ (s3 _ _ g.at_)
       have s14:Same H1 H4:=(g.same.trans s3).trans A4.same
       have pmk:((Fk.set i []).flatten).Perm Fk.flatten:=by simpa using mm (G:=[]) g.noneF
       obtain ⟨F4,hF4⟩:=A4.env.lt hib;have pm4:(F4++(Fs4.set i []).flatten).Perm Fs4.flatten:=by simpa using mm (G:=[]) hF4
       have new4:∀a∈G++Fs4.flatten,a∈Fs1.flatten\/H1 a=none:=fun a ha=>(A4.new a ha).elim (n3' a) fun z=>.inr ((g.same.trans s3).free z)
       have hG':∀a∈aF s G,a∈G:=fun a ha=>Fl ha
       obtain ⟨k1,k2,k3⟩:=Kv A4.env.ndO;have ndk:(aF s G).Nodup:=by
        cases s<;>first | exact nodup_nil | exact k1
       have pmO:(A0::(Gs++[aF s G]).flatten++(F++O)).Perm (aF s G++(A0::Gs.flatten++(F++O))):=by
        rw [vo];show (A0::((Gs.flatten++aF s G)++(F++O))).Perm _
        refine List.Perm.trans ?_ List.perm_middle.symm
        refine List.Perm.cons _ ?_
        rw [append_assoc];exact kG _ _ _
       have E5:EnvOk K He (aF s G++(A0::Gs.flatten++(F++O))) Fs4 H4 ((aD [i] U).set i (some x)) Γb:=A4.env.drop (fun a ha=>by
        rcases Kq ha with z | z
        ·exact Kp _ (hG' a z)
        ·exact Ko _ z) (List.nodup_append.mpr ⟨ndk,k2,fun a ha b hb=>k3 a (hG' a ha) b hb⟩)
       have E6:=(E5.perm pmO).forget hib
       have hDin:A0∈A0::(Gs++[aF s G]).flatten++(F++O):=mem_cons_self
       have E7:=E6.mutO (o:=.lst (ys++[u])) hDin at4 hHeD
       have subH:∀a∈A0::(Gs++[aF s G]).flatten++(F++O)++(Fs4.set i []).flatten,a∈G++(A0::Gs.flatten++(F++O))++Fs4.flatten:=fun a ha=>by
        rcases Kq ha with z | z
        ·rcases Kq (pmO.mem_iff.mp z) with y | y
         ·exact Kp _ (Kp _ (hG' a y))
         ·exact Kp _ (Ko _ y)
        ·exact Ko _ (pm4.mem_iff.mp (Ko _ z))
       have Dnot:∀{j:Nat} {Gj:List Addr},Gs[j]?=some Gj->A0∉Gj:=fun {j Gj} hj z=>by
        have nd:=g.env.ndO
        exact (List.nodup_cons.mp nd).1 (Kp _ (ia hj z))
       refine ⟨at4,vs.length-(k+1),by omega,rfl,hlt,Γb.set i none,Fs4.set i [],Gs++[aF s G],acc++[p.d],⟨E7,fun b o hb=>?_,bL,fun a ha=>?_,by simp [g.l1],by simp [g.l2],fun j w d' G' h1 h2 h3=>?_,getElem?_set_self hib,getElem?_set_self (by rw [A4.env.len2];exact hib),by rw [length_set];exact lenb⟩,eg'⟩
       ·rw [bw (u6 hb hD)]
        exact s14 b o hb
       ·rcases Kq ha with z | z
        ·rw [vo] at z
         rcases Kq z with z | z
         ·exact g.new a (Kp _ z)
         ·exact new4 a (Kp _ (hG' a z))
        ·exact new4 a (Ko _ (pm4.mem_iff.mp (Ko _ z)))
       ·by_cases hj:j<ys.length
        ·rw [getElem?_append_left hj] at h1
         rw [getElem?_append_left (by rw [<-g.l1];exact hj)] at h2
         rw [getElem?_append_left (by rw [g.l2,<-g.l1];exact hj)] at h3
         have o1:=g.own j w d' G' h1 h2 h3
         have o2:=o1.mono (O':=A0::(Gs++[aF s G]).flatten++(F++O)++(Fs4.set i []).flatten) (s3.trans A4.same) fun a ha=>by
          have up:a∈G++Fs4.flatten->a∈A0::Gs.flatten++(F++O)++Fk.flatten\/Hx a=none:=fun z=>(A4.new a z).elim (fun y=>(n3 a y).elim (fun y=>.inl (Ko _ (pmk.mem_iff.mp y))) .inr) fun y=>.inr (s3.free y)
          rcases Kq (subH a ha) with z | z
          ·rcases Kq z with z | z
           ·exact up (Kp _ z)
           ·exact .inl (Kp _ z)
          ·exact up (Ko _ z)
         exact o2.mut hsv (Kp _ hDin) (Dnot h3) at4
        ·have hj':j=ys.length:=by
          have:=(Kw h1).1
          rw [length_append,length_singleton] at this;omega
         subst hj'
         rw [getElem?_append_right (KA _),Nat.sub_self] at h1;rw [getElem?_append_right (by rw [g.l1];exact KA _),show ys.length-acc.length=0 by rw [g.l1];exact Nat.sub_self _] at h2
         rw [getElem?_append_right (by rw [g.l2,g.l1];exact KA _),show ys.length-Gs.length=0 by rw [g.l2,g.l1];exact Nat.sub_self _] at h3
         cases h1
         cases h2
         cases h3;have o3:=A4.own.coer (s:=s) (O':=A0::(Gs++[aF s G]).flatten++(F++O)++(Fs4.set i []).flatten) hco subH fun a ha hO=>by
          cases s with
          | leaf=>
           exfalso
           have hO':a∈(A0::Gs.flatten++(F++O))++(Fs4.set i []).flatten:=by
            rw [vo] at hO;simpa [aF] using hO
           rcases Kq hO' with z | z
           ·exact k3 a ha a z rfl
           ·have nd:=A4.env.nd
            exact (Kv nd).2.2 a (Kp _ ha) a (pm4.mem_iff.mp (Ko _ z)) rfl
          | view=>cases hsv
          | lst s=>exact ha
          | tup ss=>exact ha
         refine o3.mut hsv (Kp _ hDin) (fun z=>?_) at4
         exact k3 A0 (hG' A0 z) A0 mem_cons_self rfl
end
inductive eF where
 | nx (e:Ev) | bk (e:Ev) | ct (e:Ev) | rt (p:PV) | er (c:Str) (e:Ev) | no
abbrev FS:=Ev->eF
structure RetOk (K:Fg) (He:Hp) (O:List Addr) (p:PV) (v:V) (H':Hp) (G:List Addr):Prop where
 same:Same He H'
 fresh:∀a∈G,He a=none
 inH:∀a∈G,H' a≠none
 nd:G.Nodup
 own:Own K (G++O) H' p.s G v p.d
 nv:p.s.isView=false
def jT (K:Fg) (W:XW) (He:Hp) (O:List Addr) (D:cJ):eF->Prop
 | .nx Γ'=>∀U' H' Fs',EnvOk K He O Fs' H' U' Γ'->D.nx U' H'
 | .bk Γ'=>∀U' H' Fs',EnvOk K He O Fs' H' U' Γ'->D.bk U' H'
 | .ct Γ'=>∀U' H' Fs',EnvOk K He O Fs' H' U' Γ'->D.ct U' H'
 | .rt p=>∀v H' G,RetOk K He O p v H' G->D.rt v H'
 | .er c Γ'=>∀U' H' Fs',EnvOk K He O Fs' H' U' Γ'->W c U' H'
 | .no=>False
def tS (K:Fg) (W:XW) (g:FS):TS:=fun D U H=>∃He O Fs Γ,EnvOk K He O Fs H U Γ/\jT K W He O D (g Γ)
def bt:FS:=fun Γ=>.nx Γ
def aI (g1 g2:FS):FS:=fun Γ=>match g1 Γ with
 | .nx Γ'=>g2 Γ'
 | o=>o
def nQ (f:F1) (k:PV->Ev->eF):FS:=fun Γ=>match f Γ with
 | .ok p Γ'=>k p Γ'
 | .er c Γ'=>.er c Γ'
 | .no=>.no
def fz (c:FB) (a b:FS):FS:=fun Γ=>match c Γ with
 | .ok t Γ'=>if t then a Γ' else b Γ'
 | .er c Γ'=>.er c Γ'
 | .no=>.no
section
variable {K:Fg} {W:XW} {U:St} {H:Hp} {D:cJ} {fa fb:F1} {ga gb:FB} {g1 g2:FS}
theorem vP (h:tS K W bt D U H):cN D U H:=by
 obtain ⟨He,O,Fs,Γ,E,h⟩:=h;exact h U H Fs E
theorem zx (h:tS K W (aI g1 g2) D U H):aS (tS K W g1) (tS K W g2) D U H:=by
 obtain ⟨He,O,Fs,Γ,E,h⟩:=h;refine ⟨He,O,Fs,Γ,E,?_⟩
 unfold aI at h
 cases e:g1 Γ with
 | nx Γ'=>rw [e] at h;exact fun U' H' Fs' E'=>⟨He,O,Fs',Γ',E',h⟩
 | bk Γ'=>rw [e] at h;exact h
 | ct Γ'=>rw [e] at h;exact h
 | rt p=>rw [e] at h;exact h
 | er c Γ'=>rw [e] at h;exact h
 | no=>rw [e] at h;exact h
theorem nH {k:PV->Ev->eF} {R:VK} (h:tS K W (nQ fa k) D U H)
  (hk:∀He O Fs Γ1 p v H1 G Fs1,EnvOk K He O Fs H U Γ1\/True->(∀a∈G,He a=none)->Aft K He O Fs H U Γ1 p v H1 G Fs1->jT K W He O D (k p Γ1)->R v H1):tE K W fa U H R:=by
 obtain ⟨He,O,Fs,Γ,E,h⟩:=h;refine ⟨He,O,Fs,Γ,E,?_⟩
 unfold nQ at h
 cases e:fa Γ with
 | ok p Γ1=>rw [e] at h;exact fun v H' G Fs' A=>hk He O Fs Γ1 p v H' G Fs' (.inr trivial) (A.freshG E) A h
 | er c Γ1=>rw [e] at h;exact fun H' Fs' s E'=>h U H' Fs' E'
 | no=>rw [e] at h;exact h
theorem zC (h:tS K W (fz ga g1 g2) D U H):eN (tT K W ga) (tS K W g1) (tS K W g2) D U H:=by
 obtain ⟨He,O,Fs,Γ,E,h⟩:=h;refine ⟨He,O,Fs,Γ,E,?_⟩
 unfold fz at h
 cases e:ga Γ with
 | ok b Γ1=>
  rw [e] at h;intro H' Fs' s E' n
  cases b with
  | true=>exact ck ⟨He,O,Fs',Γ1,E',h⟩
  | false=>exact cn ⟨He,O,Fs',Γ1,E',h⟩
 | er c Γ1=>rw [e] at h;exact fun H' Fs' s E'=>h U H' Fs' E'
 | no=>rw [e] at h;exact h
def bh (f:F1):FS:=nQ f fun p _=>if p.s.isView then (if bB p.d then .rt ⟨.leaf,p.d⟩ else .no) else .rt p
theorem zy (h:tS K W (bh fa) D U H):cE (tE K W fa) D U H:=by
 refine nH h fun He O Fs Γ1 p v H1 G Fs1 _ fr A w=>?_
 obtain ⟨n1,n2,n3⟩:=Kv A.env.ndO;have inH:∀a∈G,H1 a≠none:=fun a ha=>A.env.inH a (Kp _ (Kp _ ha))
 cases hv:p.s.isView with
 | false=>
  have w:jT K W He O D (.rt p):=by simpa [hv] using w
  exact w v H1 G ⟨A.env.same,fr,inH,n1,A.own.perm fun a ha=>Kp _ ha,hv⟩
 | true=>
  cases hs:bB p.d with
  | false=>rw [hv,hs] at w;exact w.elim
  | true=>
   have w:jT K W He O D (.rt ⟨.leaf,p.d⟩):=by simpa [hv,hs] using w
   exact w v H1 [] ⟨A.env.same,(fun _ z=>nomatch z),(fun _ z=>nomatch z),nodup_nil,.leaf (A.own.rep.sc hs).rep,rfl⟩
def aP (own:Bool) (i:Nat) (f:F1):FS:=nQ f fun p Γ=>if i<Γ.length then (if own&&!p.s.isView then .nx (Γ.set i (some p)) else if T.coer .leaf p then .nx (Γ.set i (KD p.d)) else .no) else .no
theorem sg {own:Bool} {i:Nat} (h:tS K W (aP own i fa) D U H):b5 (tE K W fa) (av i) D U H:=by
 refine nH h fun He O Fs Γ1 p v H1 G Fs1 _ fr A w=>?_
 show D.nx (U.set i (some v)) H1
 have w:jT K W He O D (if i<Γ1.length then (if own&&!p.s.isView then .nx (Γ1.set i (some p)) else if T.coer .leaf p then .nx (Γ1.set i (KD p.d)) else .no) else .no):=w
 by_cases hi:i<Γ1.length
 case neg=>rw [if_neg hi] at w;exact w.elim
 rw [if_pos hi] at w
 cases ho:(own&&!p.s.isView) with
 | true=>
  rw [ho] at w;have hv:p.s.isView=false:=by
   simp only [Bool.and_eq_true,Bool.not_eq_true'] at ho
   exact ho.2
  exact w _ H1 _ (EnvOk.put A.env A.own hv fr hi)
 | false=>
  rw [ho] at w
  cases hc:T.coer .leaf p with
  | false=>rw [hc] at w;exact w.elim
  | true=>
   rw [hc] at w;have o:=A.own.coer (s:=.leaf) (O':=O++Fs1.flatten) hc js fun a ha z=>absurd z (A.disj a ha)
   exact w _ H1 _ (EnvOk.put (G:=[]) (p:=⟨.leaf,p.d⟩) (v:=v) A.go o rfl (fun a ha=>by simp at ha) hi)
def dX (f:F1):FS:=nQ f fun _ Γ=>.nx Γ
theorem vU (h:tS K W (dX fa) D U H):df (tE K W fa) D U H:=
 nH h fun He O Fs Γ1 p v H1 G Fs1 _ fr A w=>w U H1 Fs1 A.go
theorem yV {l:List α} {i:Nat} {x:α} (h:l[i]?=some x):l.set i x=l:=by
 apply ext_getElem?
 intro j;by_cases hj:j=i
 ·subst hj
  rw [getElem?_set_self (Kw h).1,h]
 ·rw [getElem?_set_ne (Ne.symm hj)]
def Bc (i:Nat) (p:PV) (Γ:Ev):eF:=match Γ[i]? with
 | some (some ⟨.lst s,.list ds⟩)=>if T.coer s p&&decide (ds.length<sizeLine) then .nx (Γ.set i (some ⟨.lst s,.list (ds++[p.d])⟩)) else .no
 | _=>.no
def BV:Option (Option PV)->Bool
 | some (some ⟨.lst _,.list _⟩)=>true
 | _=>false
def jY (i:Nat) (f:F1):FS:=fun Γ=>if BV Γ[i]? then nQ f (Bc i) Γ else .no
theorem xw {H:Hp} {O:List Addr} {Γ:Ev} {i:Nat} {s:Sh} {ds:List KB} {p:PV} {v:V} (E:EnvOk K He (G++O) Fs H U Γ) (o:Own K (G++O++Fs.flatten) H p.s G v p.d) (fr:∀a∈G,He a=none)
  (h:Γ[i]?=some (some ⟨.lst s,.list ds⟩)) (hc:T.coer s p=true) :
  ∃l vs,U[i]?=some (some (.ref l))/\H l=some (.lst vs)/\vs.length=ds.length/\∃Fs',EnvOk K He O Fs' (upd H l (.lst (vs++[v]))) U (Γ.set i (some ⟨.lst s,.list (ds++[p.d])⟩)):=by
 obtain ⟨hv,u,F,h1,E1,o1,sub⟩:=E.move h;have hi:i<Γ.length:=(Kw h).1
 cases o1 with
 | @lst _ l vs _ Fs0 hsv hp hl hf nd q=>
  refine ⟨l,vs,h1,hp,hl,Fs.set i (l::(Fs0++[aF s G]).flatten),?_⟩
  have hlF:l∈Fs.flatten:=sub l (Kp _ mem_cons_self)
  have hHe:He l=none:=E.fresh l hlF
  have hG':∀a∈aF s G,a∈G:=fun a ha=>Fl ha
  obtain ⟨k1,k2,k3⟩:=Kv E1.ndO;obtain ⟨g1,g2,g3⟩:=Kv k2;have ndk:(aF s G).Nodup:=by
   cases s<;>first | exact nodup_nil | exact g1
  have pmO:((l::(Fs0++[aF s G]).flatten)++O).Perm ((l::Fs0.flatten)++(aF s G++O)):=by
   rw [vo];show (l::((Fs0.flatten++aF s G)++O)).Perm (l::(Fs0.flatten++(aF s G++O)))
   rw [append_assoc]
  have E2:EnvOk K He ((l::Fs0.flatten)++(aF s G++O)) (Fs.set i []) H U (Γ.set i none):=E1.drop (fun a ha=>by
   rcases Kq ha with z | z
   ·exact Kp _ z
   ·refine Ko _ ?_
    rcases Kq z with z | z
    ·exact Kp _ (hG' a z)
    ·exact Ko _ z) (List.nodup_append.mpr ⟨k1,List.nodup_append.mpr ⟨ndk,g2,fun a ha b hb=>g3 a (hG' a ha) b hb⟩,fun a ha b hb=>k3 a ha b (by
     rcases Kq hb with z | z
     ·exact Kp _ (hG' b z)
     ·exact Ko _ z)⟩)
  have E3:=E2.perm pmO
  have hlin:l∈(l::(Fs0++[aF s G]).flatten)++O:=mem_cons_self
  have E4:=E3.mutO (o:=.lst (vs++[v])) hlin hp hHe
  have lnG:l∉G:=fun z=>k3 l mem_cons_self l (Kp _ z) rfl
  have subH:∀a∈(l::(Fs0++[aF s G]).flatten)++O++(Fs.set i []).flatten,a∈(l::Fs0.flatten)++(G++O)++(Fs.set i []).flatten:=fun a ha=>by
   rcases Kq ha with z | z
   ·refine Kp _ ?_
    rcases Kq (pmO.mem_iff.mp z) with y | y
    ·exact Kp _ y
    ·refine Ko _ ?_
     rcases Kq y with y | y
     ·exact Kp _ (hG' a y)
     ·exact Ko _ y
   ·exact Ko _ z
  have ownL:Own K ((l::(Fs0++[aF s G]).flatten)++O++(Fs.set i []).flatten) (upd H l (.lst (vs++[v]))) (.lst s) (l::(Fs0++[aF s G]).flatten) (.ref l) (.list (ds++[p.d])):=by
   refine .lst hsv bL (by simp [hl]) (by simp [hf]) ?_ fun j w d' G' e1 e2 e3=>?_
   ·have nd2:=E3.ndO
    exact (Kv nd2).1
   ·by_cases hj:j<vs.length
    ·rw [getElem?_append_left hj] at e1
     rw [getElem?_append_left (by omega)] at e2
     rw [getElem?_append_left (by omega)] at e3
     exact ((q j w d' G' e1 e2 e3).perm subH).mut hsv (Kp _ hlin) (fun z=>(List.nodup_cons.mp nd).1 (ia e3 z)) hp
    ·have hj':j=vs.length:=by
      have:=(Kw e1).1
      rw [length_append,length_singleton] at this;omega
     subst hj'
     rw [getElem?_append_right (KA _),Nat.sub_self] at e1;rw [getElem?_append_right (by omega),show vs.length-ds.length=0 by omega] at e2
     rw [getElem?_append_right (by omega),show vs.length-Fs0.length=0 by omega] at e3
     cases e1
     cases e2
     cases e3;have osub:∀a∈(l::(Fs0++[aF s G]).flatten)++O++(Fs.set i []).flatten,a∈G++O++Fs.flatten:=fun a ha=>by
      rcases Kq (subH a ha) with z | z
      ·rcases Kq z with z | z
       ·exact Ko _ (sub a (Kp _ z))
       ·exact Kp _ z
      ·exact Ko _ (sub a (Ko _ z))
     have o3:=o.coer (s:=s) hc osub fun a ha hO=>by
      cases s with
      | leaf=>
       exfalso
       rw [vo] at hO;have hO':a∈(l::Fs0.flatten)++O++(Fs.set i []).flatten:=by simpa [aF] using hO
       have ndE:=E.nd
       rw [append_assoc] at ndE;have dis:=(Kv ndE).2.2
       rcases Kq hO' with z | z
       ·rcases Kq z with z | z
        ·exact dis a ha a (Ko _ (sub a (Kp _ z))) rfl
        ·exact dis a ha a (Kp _ z) rfl
       ·exact dis a ha a (Ko _ (sub a (Ko _ z))) rfl
      | view=>cases hsv
      | lst s=>exact ha
      | tup ss=>exact ha
     exact o3.mut hsv (Kp _ hlin) (fun z=>lnG (hG' l z)) hp
  have fin:=EnvOk.put (i:=i) (p:=⟨.lst s,.list (ds++[p.d])⟩) (v:=.ref l) E4 ownL rfl (fun a ha=>?_) (by rw [length_set];exact hi)
  ·rw [set_set,set_set,yV h1] at fin
   exact fin
  ·rcases Kr ha with z | z
   ·rw [z];exact hHe
   ·rw [vo] at z
    rcases Kq z with z | z
    ·exact E.fresh a (sub a (Kp _ (Ku _ z)))
    ·exact fr a (hG' a z)
theorem GW {QL:List V->Hp->Prop} (h1:tE K W fa U H fun v H'=>QL [v] H'):tA K W (aa fa af) U H QL:=by
 obtain ⟨He,O,Fs,Γ,E,h1⟩:=h1;refine ⟨He,O,Fs,Γ,E,?_⟩
 unfold aa af
 cases e:fa Γ with
 | ok p Γ'=>
  rw [e] at h1;intro vs H' Gs Fs' A
  match vs,Gs,A.len1,A.len2 with
  | [v],[G],_,_=>exact h1 v H' G Fs' ⟨A.same,by simpa using A.env,by simpa using A.new,by simpa using A.own 0 v p G rfl rfl rfl⟩
 | er c Γ'=>rw [e] at h1;exact h1
 | no=>rw [e] at h1;exact h1
theorem qb {o:Option (Option PV)} (h:BV o=true):∃s ds,o=some (some ⟨.lst s,.list ds⟩):=by
 unfold BV at h;split at h
 ·exact ⟨_,_,rfl⟩
 ·cases h
theorem EnvOk.ownL {H:Hp} {O:List Addr} {Γ:Ev} {i:Nat} {s:Sh} {ds:List KB} (E:EnvOk K He O Fs H U Γ) (h:Γ[i]?=some (some ⟨.lst s,.list ds⟩)):∃l vs,U[i]?=some (some (.ref l))/\H l=some (.lst vs)/\vs.length=ds.length:=by
 obtain ⟨hv,v,F,h1,h2,h3⟩:=E.slot i _ h
 cases h3 with
 | @lst _ l vs _ Fs0 hsv hp hl hf nd q=>exact ⟨l,vs,h1,hp,hl⟩
theorem pJ {i:Nat} (h:tS K W (jY i fa) D U H):df (FJ K "list" ET (ai i) (tA K W (aa fa af))) D U H:=by
 obtain ⟨He,O,Fs,Γ,E,h⟩:=h;unfold jY at h
 cases ho:BV Γ[i]? with
 | false=>rw [ho] at h;exact h.elim
 | true=>
  rw [ho] at h;obtain ⟨s,ds,e0⟩:=qb ho;obtain ⟨l,vs,h1,h2,h3⟩:=E.ownL e0;refine ⟨.ref l,h1,.inl ⟨rfl,vs,.of h2⟩,GW (nH (D:=D) ⟨He,O,Fs,Γ,E,h⟩ fun He O Fs Γ1 p v H1 G Fs1 _ fr A w=>?_)⟩
  unfold Bc at w;split at w
  ·rename_i s1 ds1 e1
   cases hc:(T.coer s1 p&&decide (ds1.length<sizeLine)) with
   | false=>rw [hc] at w;exact w.elim
   | true=>
    rw [hc] at w;simp only [Bool.and_eq_true,decide_eq_true_eq] at hc
    obtain ⟨l1,vs1,q1,q2,q3,Fs',E'⟩:=xw A.env A.own fr e1 hc.1;rw [h1] at q1
    cases q1;exact ⟨l,vs1,v,rfl,rfl,q2,by rw [q3];exact hc.2,w U _ Fs' E'⟩
  ·exact w.elim
def dm (i:Nat) (body:FS):List KB->Ev->eF
 | [],Γ=>.nx Γ
 | d::r,Γ=>if i<Γ.length then (match body (Γ.set i (KD d)) with
  | .nx Γ'=>dm i body r Γ'
  | .ct Γ'=>dm i body r Γ'
  | .bk Γ'=>.nx Γ'
  | .rt p=>.rt p
  | .er c Γ'=>.er c Γ'
  | .no=>.no) else .no
def ig (i:Nat) (fi:FI) (body:FS):FS:=fun Γ=>match fi Γ with
 | .ok t Γ1=>if t.st then dm i body t.ds Γ1 else .no
 | .er c Γ1=>.er c Γ1
 | .no=>.no
theorem EnvOk.rebase {H:Hp} {O:List Addr} {Γ:Ev} (E:EnvOk K He O Fs H U Γ):EnvOk K (aC H Fs.flatten) O Fs H U Γ/\Same He (aC H Fs.flatten):=
 ⟨⟨E.len1,E.len2,hid_le,E.nd,E.inH,fun a ha=>by unfold aC;rw [if_pos ha],E.slot⟩,fun b o e=>h9 (E.same b o e) fun z=>by have:=E.fresh b z;rw [e] at this;cases this⟩
theorem EnvOk.unbase {H:Hp} {O:List Addr} {Γ:Ev} (E:EnvOk K He' O Fs H U Γ) (s:Same He He'):EnvOk K He O Fs H U Γ:=
 ⟨E.len1,E.len2,s.trans E.same,E.nd,E.inH,fun a ha=>s.free (E.fresh a ha),E.slot⟩
theorem RetOk.unbase {H:Hp} {O:List Addr} {p:PV} {v:V} (r:RetOk K He' O p v H G) (s:Same He He'):RetOk K He O p v H G:=
 ⟨s.trans r.same,fun a ha=>s.free (r.fresh a ha),r.inH,r.nd,r.own,r.nv⟩
theorem zG {i:Nat} {fi:FI} {body:FS} (h:tS K W (ig i fi body) D U H):cT (tI K W fi) (av i) (tS K W body) D U H:=by
 obtain ⟨He,O,Fs,Γ,E,h⟩:=h;refine ⟨He,O,Fs,Γ,E,?_⟩
 unfold ig at h
 cases e:fi Γ with
 | er c Γ1=>rw [e] at h;exact fun H' Fs' s E'=>h U H' Fs' E'
 | no=>rw [e] at h;exact h
 | ok t Γ1=>
  rw [e] at h;intro J H1 Fs1 vs P s1 E1 n1 it hP hP1 hst hr;have h:jT K W He O D (if t.st then dm i body t.ds Γ1 else .no):=h
  cases ht:t.st with
  | false=>rw [ht] at h;exact h.elim
  | true=>
   rw [ht] at h;have h:jT K W He O D (dm i body t.ds Γ1):=h
   obtain ⟨E1',sHe⟩:=E1.rebase;have hlen:vs.length=t.ds.length:=hr.1
   refine ⟨fun k m U' H'=>m=vs.length-k/\k<=vs.length/\∃Γk Fk,EnvOk K (aC H1 Fs1.flatten) O Fk H' U' Γk/\jT K W He O D (dm i body (t.ds.drop k) Γk),⟨vs.length,by simp,Nat.zero_le _,Γ1,Fs1,E1',by simpa using h⟩,?_⟩
   rintro k m U' H' ⟨rfl,hk,Γk,Fk,Ek,hw⟩
   have hPk:P H':=hst ht H' Ek.same
   by_cases hlt:k<vs.length
   case neg=>
    left
    have hke:k=vs.length:=by omega
    have:t.ds.drop k=[]:=drop_eq_nil_of_le (by omega)
    rw [this] at hw;exact ⟨by rw [hke];exact it.stop H' hPk,hw U' H' Fk (Ek.unbase sHe)⟩
   case pos=>
    right
    have hv:vs[k]?=some vs[k]:=Ks hlt
    have hkd:k<t.ds.length:=by omega
    have hd:t.ds[k]?=some t.ds[k]:=Ks hkd
    have hdr:t.ds.drop k=t.ds[k]::t.ds.drop (k+1):=drop_eq_getElem_cons hkd
    rw [hdr] at hw;generalize hdk:t.ds[k]=d at hd hw
    generalize hvk:vs[k]=v at hv
    obtain ⟨hgo,hyld⟩:=it.go k H' v hPk hv
    simp only [dm] at hw
    by_cases hi:i<Γk.length
    case neg=>rw [if_neg hi] at hw;exact hw.elim
    rw [if_pos hi] at hw;have rep:Rep K (aC H' (O++Fk.flatten)) v d:=by
     refine (hr.2 k v d hv hd).mono fun b o hb=>?_
     have hb1:aC H1 Fs1.flatten b=some o:=sub_hid b o hb
     have hbO:b∉O:=fun z=>by
      unfold aC at hb;rw [if_pos (Kp _ z)] at hb
      cases hb
     have hbF:b∉Fk.flatten:=fun z=>by
      have:=Ek.fresh b z
      rw [hb1] at this
      cases this
     exact h9 (Ek.same b o hb1) fun z=>(Kq z).elim hbO hbF
    have Ep:EnvOk K (aC H1 Fs1.flatten) O (Fk.set i []) H' (U'.set i (some v)) (Γk.set i (KD d)):=
     EnvOk.put (G:=[]) (p:=⟨.leaf,d⟩) (v:=v) Ek (.leaf rep) rfl (fun a ha=>by simp at ha) hi
    refine ⟨hgo,fun U2 H2=>∃Γk Fk,EnvOk K (aC H1 Fs1.flatten) O Fk H2 U2 Γk/\jT K W He O D (dm i body (t.ds.drop (k+1)) Γk),fun U2 H2 q=>⟨vs.length-(k+1),by omega,rfl,hlt,q⟩,fun x Hx hx=>?_⟩
    obtain ⟨rfl,rfl⟩:=hyld x Hx hx;show tS K W body _ (U'.set i (some x)) Hx
    refine ⟨aC H1 Fs1.flatten,O,_,_,Ep,?_⟩
    cases eb:body (Γk.set i (KD d)) with
    | nx Γ'=>rw [eb] at hw;exact fun U2 H2 F2 E2=>⟨Γ',F2,E2,hw⟩
    | ct Γ'=>rw [eb] at hw;exact fun U2 H2 F2 E2=>⟨Γ',F2,E2,hw⟩
    | bk Γ'=>rw [eb] at hw;exact fun U2 H2 F2 E2=>hw U2 H2 F2 (E2.unbase sHe)
    | rt p=>rw [eb] at hw;exact fun u H2 G r=>hw u H2 G (r.unbase sHe)
    | er c Γ'=>rw [eb] at hw;exact fun U2 H2 F2 E2=>hw U2 H2 F2 (E2.unbase sHe)
    | no=>rw [eb] at hw;exact hw
end
inductive b9 where
 | ok (p:PV) | er (c:Str) | no
def pq (K:Fg) (n:Nat) (den:List KB->b9):Sp:=fun vs H Q _=>vs.length=n/\∃O ds,O.Nodup/\(∀a∈O,H a≠none)/\Reps K (aC H O) vs ds/\match den ds with
 | .ok p=>∀v H' G,RetOk K H O p v H' G->Q v H'
 | .er _=>False
 | .no=>False
def bO (n:Nat) (ds:List KB):Ev:=ds.map (fun d=>some ⟨.leaf,d⟩)++List.replicate (n-ds.length) none
def aQ (n:Nat) (g:FS) (ds:List KB):b9:=match g (bO n ds) with
 | .nx _=>.ok ⟨.leaf,.none⟩
 | .rt p=>.ok p
 | .er c _=>.er c
 | _=>.no
section
variable {P:Program} {w:World} {K:Fg} {mg:Str->Option Value} {base:Heap}
theorem qg {H:Hp} {O:List Addr} {ds:List KB} (hn:vs.length<=N.length) (nd:O.Nodup) (inH:∀a∈O,H a≠none) (rs:Reps K (aC H O) vs ds) :
  EnvOk K H O (List.replicate N.length []) H (L2.start N vs) (bO N.length ds):=by
 have fl:(List.replicate N.length ([]:List Addr)).flatten=[]:=by simp
 have hl:=rs.1
 refine ⟨by simp [L2.start,bO,hl],by simp [bO];omega,Same.refl _,by rw [fl];simpa using nd,by rw [fl];simpa using inH,fun a ha=>by rw [fl] at ha;simp at ha,fun i p hp=>?_⟩
 unfold bO at hp;by_cases hi:i<ds.length
 ·rw [getElem?_append_left (by simpa using hi),getElem?_map,Ks hi] at hp
  cases hp;refine ⟨rfl,vs[i]'(by omega),[],?_,?_,?_⟩
  ·unfold L2.start
   rw [getElem?_append_left (by simp;omega),getElem?_map,Ks (by omega)]
   rfl
  ·rw [getElem?_replicate,if_pos (by omega)]
  ·refine .leaf ?_
   rw [fl,append_nil];exact rs.2 i _ _ (Ks _) (Ks hi)
 ·rw [getElem?_append_right (by simpa using hi),getElem?_replicate] at hp
  split at hp<;>cases hp
theorem AO {st:Stmt} {f:Addr} {k:Nat} {g:FS} (F:Fun K x qual st f fd) (S:aR N ps (cf st))
  (hb:∀(cdv:Value) (A:Around) (outer:List Env) (s:Shared) (H:Hp) (E:XK),Room k (A.deeper (envOfC qual (cf st) s.heap.objs.size f cdv)) ->
   PSs (jL eG P w K mg base N qual (cf st) f cdv A outer s H E).nox (fG st) (tS K W0 g)):bT P w K mg base eG (k+1) f fd ps (pq K ps.length (aQ N.length g)):=by
 have hpl:ps.length<=N.length:=by have:=congrArg List.length S.pre;rw [length_take] at this;omega
 refine F.ok S (fun vs H Q E h=>h.1) (fun cdv A outer s H vs Q E hr h=>⟨_,hb cdv A outer s H E hr,?_⟩)
 obtain ⟨hl,O,ds,nd,inH,rs,w⟩:=h;refine ⟨H,O,List.replicate N.length [],bO N.length ds,qg (by omega) nd inH rs,?_⟩
 unfold aQ at w
 cases e:g (bO N.length ds) with
 | nx Γ'=>
  rw [e] at w;exact fun U' H' Fs' E'=>w .non H' [] ⟨E'.same,(fun _ z=>nomatch z),(fun _ z=>nomatch z),nodup_nil,.leaf .non,rfl⟩
 | rt p=>rw [e] at w;exact w
 | bk Γ'=>rw [e] at w;exact w.elim
 | ct Γ'=>rw [e] at w;exact w.elim
 | er c Γ'=>rw [e] at w;exact w.elim
 | no=>rw [e] at w;exact w.elim
end
def ah (n:Nat) (den:List KB->b9) (fl:FL):F1:=fun Γ=>(fl Γ).bind fun ps Γ'=>if ps.length=n then (match den (ps.map (·.d)) with
 | .ok p=>if ps.all (T.coer .leaf) then .ok p Γ' else if bB p.d then .ok ⟨.leaf,p.d⟩ Γ' else .ok ⟨.view,p.d⟩ Γ'
 | _=>.no) else .no
section
variable {K:Fg} {W:XW} {U:St} {H:Hp} {Q:VK} {fl:FL}
theorem vW {den:List KB->b9} {E:XK} (h:tE K W (ah n den fl) U H Q):cF (pq K n den) [] E (tA K W fl) U H Q:=by
 obtain ⟨He,O,Fs,Γ,E0,h⟩:=h;refine ⟨He,O,Fs,Γ,E0,?_⟩
 unfold ah at h
 cases e:fl Γ with
 | er c Γ'=>rw [e] at h;exact h
 | no=>rw [e] at h;exact h
 | ok ps Γ1=>
  rw [e] at h;intro vs H1 Gs Fs1 A;have h:Wants K W He O Fs H U Q (if ps.length=n then (match den (ps.map (·.d)) with | .ok p=>if ps.all (T.coer .leaf) then .ok p Γ1 else if bB p.d then .ok ⟨.leaf,p.d⟩ Γ1 else .ok ⟨.view,p.d⟩ Γ1 | _=>.no) else .no):=h
  by_cases hn:ps.length=n
  case neg=>rw [if_neg hn] at h;exact h.elim
  rw [if_pos hn] at h;have hl:(vs++[]).length=n:=by rw [append_nil,A.len1];exact hn
  cases ed:den (ps.map (·.d)) with
  | er c=>rw [ed] at h;exact h.elim
  | no=>rw [ed] at h;exact h.elim
  | ok p=>
   rw [ed] at h;have h:Wants K W He O Fs H U Q (if ps.all (T.coer .leaf) then .ok p Γ1 else if bB p.d then .ok ⟨.leaf,p.d⟩ Γ1 else .ok ⟨.view,p.d⟩ Γ1):=h
   obtain ⟨n1,n2,n3⟩:=Kv A.env.nd;obtain ⟨m1,m2,m3⟩:=Kv n1;have newF:∀a∈Fs1.flatten,a∈Fs.flatten\/H a=none:=fun a ha=>A.new a (Ko _ ha)
   cases hc:ps.all (T.coer .leaf) with
   | true=>
    rw [hc] at h;have h:Wants K W He O Fs H U Q (.ok p Γ1):=h
    refine ⟨hl,O++Fs1.flatten,ps.map (·.d),A.env.dropL.nd,A.env.dropL.inH,?_,?_⟩
    ·rw [append_nil]
     refine ⟨A.reps.1,fun i v d h1 h2=>?_⟩
     rw [getElem?_map] at h2
     cases e2:ps[i]? with
     | none=>rw [e2] at h2;cases h2
     | some q=>
      rw [e2] at h2
      cases h2;have hi:=(Kw e2).1
      have e3:Gs[i]?=some (Gs[i]'(by rw [A.len2];exact hi)):=Ks _
      have o:=A.own i v q _ h1 e2 e3
      have o2:=o.coer (s:=.leaf) (O':=O++Fs1.flatten) (List.all_eq_true.mp hc q (mem_of_getElem? e2)) js fun a ha z=>by
       exfalso
       have hG:=ia e3 ha
       rcases Kq z with y | y
       ·exact m3 a hG a y rfl
       ·exact n3 a (Kp _ hG) a y rfl
      cases o2 with
      | leaf r=>exact r
    ·rw [ed]
     intro v H2 G r;refine h v H2 G Fs1 ⟨A.same.trans r.same,A.env.dropL.hide r.same r.nd r.fresh r.inH,fun a ha=>?_,by rw [append_assoc];exact r.own⟩
     rcases Kq ha with z | z
     ·exact .inr (A.same.free (r.fresh a z))
     ·exact newF a z
   | false=>
    rw [hc] at h;have h:Wants K W He O Fs H U Q (if bB p.d then .ok ⟨.leaf,p.d⟩ Γ1 else .ok ⟨.view,p.d⟩ Γ1):=h
    refine ⟨hl,[],ps.map (·.d),nodup_nil,(fun _ z=>nomatch z),by rw [append_nil,oP];exact A.reps,?_⟩
    rw [ed];intro v H2 G r
    cases hs:bB p.d with
    | true=>
     rw [hs] at h;exact Wants.scal h (r.own.rep.sc hs) (A.same.trans r.same) (A.env.dropL.grow r.same) (fun a ha=>ha) E0.ndO newF
    | false=>
     rw [hs] at h;have h:Wants K W He O Fs H U Q (.ok ⟨.view,p.d⟩ Γ1):=h
     exact h v H2 [] Fs1 ⟨A.same.trans r.same,by simpa using A.env.dropL.grow r.same,by simpa using newF,.view r.own.rep⟩
end
theorem uE:bootBuiltins "len"=some (.builtin "len"):=by decide +kernel
theorem o4:bootBuiltins "all"=some (.builtin "all"):=by decide +kernel
theorem Em:bootBuiltins "any"=some (.builtin "any"):=by decide +kernel
theorem uB:bootBuiltins "sorted"=some (.builtin "sorted"):=by decide +kernel
theorem El:bootBuiltins "int"=some (.type "int"):=by decide +kernel
theorem Ge:bootBuiltins "list"=some (.type "list"):=by decide +kernel
theorem xv:bootBuiltins "tuple"=some (.type "tuple"):=by decide +kernel
section
variable {X:Cx} {W:XW} {a b c e:Expr} {es:List Expr} {pos:Pos} {fa fb fc:F1} {fl:FL} {ga gb:FB} {g1 g2:FS}
theorem A6 {op:CmpOp} {r:R2} {g:KB->KB->Option KB} (ho:OpR X (compareOp op) r) (hg:GOp X.K r g) (ha:PE X a (tE X.K W fa)) (hb:PE X b (tE X.K W fb)) (hm:behindInMarks op b=false:=by with_unfolding_all rfl) :
  PE X (.Compare a [op] [b] pos) (tE X.K W (aE g fa fb)):=aZ (wj ho ha hb hm) fun _ _ _=>fK hg
theorem AV {op:CmpOp} {r:R2} {g:KB->KB->Option KB} (ho:OpR X (compareOp op) r) (hg:GOp X.K r g) (ha:PE X a (tE X.K W fa)) (hb:PE X b (tE X.K W fb)) (hm:behindInMarks op b=false:=by with_unfolding_all rfl) :
  PT X (.Compare a [op] [b] pos) (tT X.K W (bo aw (aE g fa fb))):=o7 (nZ ho ha hb hm) fun U H QB=>nS fun Q=>fK hg
theorem uv {op:CmpOp} {r r':R2} {g:KB->KB->Option KB} (ho:OpR X (compareOp op) r) (hg:GOp X.K r g) (ho':OpR X (compareOp op') r') (hg':GOp X.K r' g') (ha:PE X a (tE X.K W fa)) (hb:PE X b (tE X.K W fb)) (hc:PE X c (tE X.K W fc))
  (hm:lastMarks [op,op'] [b,c]=false:=by with_unfolding_all rfl):PE X (.Compare a [op,op'] [b,c] pos) (tE X.K W (uZ g g' fa fb fc)):=aZ (sV ho ho' ha hb hc hm) fun _ _ _=>kz hg hg'
theorem uk {op:CmpOp} {r r':R2} {g:KB->KB->Option KB} (ho:OpR X (compareOp op) r) (hg:GOp X.K r g) (ho':OpR X (compareOp op') r') (hg':GOp X.K r' g') (ha:PE X a (tE X.K W fa)) (hb:PE X b (tE X.K W fb)) (hc:PE X c (tE X.K W fc))
  (hm:lastMarks [op,op'] [b,c]=false:=by with_unfolding_all rfl):PT X (.Compare a [op,op'] [b,c] pos) (tT X.K W (bo aw (uZ g g' fa fb fc))):=o7 (sM ho ho' ha hb hc hm) fun U H QB=>nS fun Q=>kz hg hg'
theorem da_nil:PA X [] (tA X.K W af):=yI dF fun _ _ _=>zB
theorem da_cons (ha:PE X e (tE X.K W fa)) (hr:PA X es (tA X.K W fl)) (hs:starEach (e::es) X.env=(false,eval e X.env)::starEach es X.env:=by rfl):PA X (e::es) (tA X.K W (aa fa fl)):=yI (bK ha hr hs) fun _ _ _=>vV
theorem de_idx (ha:PE X a (tE X.K W fa)) (hb:PE X b (tE X.K W fb)) (hs:EW b:=by intro _ _;rfl):PE X (.Subscript a b pos) (tE X.K W (ak fa fb)):=aZ (sS Gg ha hb hs) fun _ _ _=>zD
theorem yC {id:String} {r:List V->Hp->VK->Prop} {g:List KB->Option KB} {p:Pos} (hc:CallR X (.builtin id) r) (hg:GCall X.K r g) (hv:bootBuiltins x=some (.builtin id)) (hm:X.mg x=none) (ha:PA X (e::es) (tA X.K W fl)) (hG:Gl X x:=by rfl)
  (hn:x ≠ "__name__":=by decide) (hdb:(x==("__debug__":Str))=false:=by decide) (he:starEach (e::es) X.env=(false,eval e X.env)::starEach es X.env:=by rfl) (hpl:(backTo pos (starEach es X.env)).any (·.1)=false:=by rfl) :
  PE X (.Call (.Name x p) (e::es) [] pos) (tE X.K W (cX g fl)):=aZ (yU hc hG hm hv ha hn hdb he hpl) fun _ _ _=>yi hg
theorem DT {id:String} {r:List V->Hp->VK->Prop} {g:List KB->Option KB} {p:Pos} (hc:CallR X (.type id) r) (hg:GCall X.K r g) (hv:bootBuiltins x=some (.type id)) (hm:X.mg x=none) (ha:PA X (e::es) (tA X.K W fl)) (hG:Gl X x:=by rfl)
  (hn:x ≠ "__name__":=by decide) (hdb:(x==("__debug__":Str))=false:=by decide) (he:starEach (e::es) X.env=(false,eval e X.env)::starEach es X.env:=by rfl) (hpl:(backTo pos (starEach es X.env)).any (·.1)=false:=by rfl) :
  PE X (.Call (.Name x p) (e::es) [] pos) (tE X.K W (cX g fl)):=aZ (Ce hc hG hm hv ha hn hdb he hpl) fun _ _ _=>yi hg
theorem qt {p:Pos} (hm:X.mg "list"=none) (ha:PE X e (tE X.K W fa)) (hG:Gl X "list":=by rfl) (hs:starEach [e] X.env=[(false,eval e X.env)]:=by rfl) :
  PE X (.Call (.Name "list" p) [e] [] pos) (tE X.K W (qJ fa)):=aZ (Ce fu hG hm Ge (da_cons ha da_nil hs) (by decide) (by decide) hs rfl) fun _ _ _=>pI
theorem xl {f:Addr} {k:Nat} {den:List KB->b9} {p:Pos} (F:bT X.prog X.w X.K X.mg X.base eG k f fd ps (pq X.K n den)) (hr:Room k X.A) (hm:X.mg x=some (.ref f)) (hk:PySem.W.keepIn X.K (.ref f)=true)
  (hb:Binds X.K fd ps []) (ha:PA X (e::es) (tA X.K W fl)) (hg:Gl X x:=by rfl) (hdb:(x==("__debug__":Str))=false:=by decide) (he:starEach (e::es) X.env=(false,eval e X.env)::starEach es X.env:=by rfl)
  (hpl:(backTo pos (starEach es X.env)).any (·.1)=false:=by rfl):PE X (.Call (.Name x p) (e::es) [] pos) (tE X.K W (ah n den fl)):=aZ (ES F hr hg hm hk hb .nil om ha hdb he hpl) fun _ _ _=>vW
theorem DS {p:Pos} (hm:X.mg "range"=none) (ha:PA X [a] (tA X.K W fl)) (hg:Gl X "range":=by rfl) (hs:starEach [a] X.env=[(false,eval a X.env)]:=by rfl):PI X tg (.Call (.Name "range" p) [a] [] pos) (tI X.K W (gm fl)):=uO (Hm hg hm ha hs) fun _ _ _=>zF
theorem DR {p:Pos} (hm:X.mg "range"=none) (ha:PA X [a,b] (tA X.K W fl)) (hg:Gl X "range":=by rfl) (hs:starEach [a,b] X.env=[(false,eval a X.env),(false,eval b X.env)]:=by rfl) (hs2:starEach [b] X.env=[(false,eval b X.env)]:=by rfl) :
  PI X tg (.Call (.Name "range" p) [a,b] [] pos) (tI X.K W (yx fl)):=uO (pQ hg hm ha hs hs2) fun _ _ _=>zE
def aO:FB:=fun Γ=>.ok true Γ
theorem xk {fi:FI} {fe:F1} {fc:FB} (s:Sh) (i:Nat) (S:cZ X.N [i] X.env.scope scope) (hN:X.N.Nodup) (hi':PI X (.Name x px) iter (tI X.K W fi))
  (hc:∀cells C s₀ H₀ ex,PF (blk X scope cells C s₀ H₀ ex) ifs (tT X.K W0 fc)) (he:∀cells C s₀ H₀ ex,PE (blk X scope cells C s₀ H₀ ex) elt (tE X.K W0 fe))
  (hcalm:X.calm=true:=by rfl) (hx:X.N[i]?=some x:=by rfl) (hl:∀cells C s₀ H₀ ex,Loc (blk X scope cells C s₀ H₀ ex).env.scope x:=by first | exact fun _ _ _ _ _=>Or.inl rfl | exact fun _ _ _ _ _=>Or.inr rfl)
  (hf:∀cells C s₀ H₀ ex,(blk X scope cells C s₀ H₀ ex).fn x=true\/(blk X scope cells C s₀ H₀ ex).env.scope.names.lookup x=some .local:=by first | exact fun _ _ _ _ _=>Or.inr rfl | exact fun _ _ _ _ _=>Or.inl rfl)
  (hs:∀x,foldedSetIterable iter X.env x=pure x:=by intro _;rfl):PE X (.ListComp elt [⟨.Name x px,iter,ifs,0⟩] scope pos) (tE X.K W (aG s i fi fc fe)):=
 aZ (xQ S hcalm hi' (fun cells C s₀ H₀ ex=>mi (X:=blk X scope cells C s₀ H₀ ex) (i:=i) hN hx (hl cells C s₀ H₀ ex) (hf cells C s₀ H₀ ex)) hc he hs) fun _ _ _=>nU
theorem AW (own:Bool) (i:Nat) (hN:X.N.Nodup) (ha:PE X a (tE X.K W fa)) (hi:X.N[i]?=some x:=by rfl) (hx:Loc X.env.scope x:=by first | exact Or.inl rfl | exact Or.inr rfl) (hs:swapsWith a (some (.Name x pos')) pos.line X.env=pure false:=by rfl)
  (hf:X.fn x=true\/X.env.scope.names.lookup x=some .local:=by first | exact .inl rfl | exact .inr rfl):PS X (.Assign [.Name x pos'] a pos) (tS X.K W (aP own i fa)):=d7 (qH hN hi hx ha hs hf) fun _ _ _=>sg
theorem mT (own:Bool) (j:Nat) {spos:Pos} {fi:FI} {fe:F1} {fc:FB} (s:Sh) (i:Nat) (S:cZ X.N [i] X.env.scope scope) (hN:X.N.Nodup) (hi':PI X (.Name x px) iter (tI X.K W fi))
  (hc:∀cells C s₀ H₀ ex,PF (blk X scope cells C s₀ H₀ ex) ifs (tT X.K W0 fc)) (he:∀cells C s₀ H₀ ex,PE (blk X scope cells C s₀ H₀ ex) elt (tE X.K W0 fe))
  (hsw:swapsWith (.ListComp elt [⟨.Name x px,iter,ifs,0⟩] scope pos) (some (.Name y pos')) spos.line X.env=pure true:=by rfl)
  (hy:X.N[j]?=some y:=by rfl) (hly:X.env.scope.names.lookup y=some .local:=by rfl)
  (hcalm:X.calm=true:=by rfl) (hx:X.N[i]?=some x:=by rfl) (hl:∀cells C s₀ H₀ ex,Loc (blk X scope cells C s₀ H₀ ex).env.scope x:=by first | exact fun _ _ _ _ _=>Or.inl rfl | exact fun _ _ _ _ _=>Or.inr rfl)
  (hf:∀cells C s₀ H₀ ex,(blk X scope cells C s₀ H₀ ex).fn x=true\/(blk X scope cells C s₀ H₀ ex).env.scope.names.lookup x=some .local:=by first | exact fun _ _ _ _ _=>Or.inr rfl | exact fun _ _ _ _ _=>Or.inl rfl)
  (hs:∀x,foldedSetIterable iter X.env x=pure x:=by intro _;rfl):PS X (.Assign [.Name y pos'] (.ListComp elt [⟨.Name x px,iter,ifs,0⟩] scope pos) spos) (tS X.K W (aP own j (aG s i fi fc fe))):=
 d7 (mE hN hy hly S hcalm hi' (fun cells C s₀ H₀ ex=>mi (X:=blk X scope cells C s₀ H₀ ex) (i:=i) hN hx (hl cells C s₀ H₀ ex) (hf cells C s₀ H₀ ex)) hc he hsw hs) fun D U H h=>by
  have h2:b5 (tE X.K W (aG s i fi fc fe)) (av j) D U H:=sg h
  exact nU h2
theorem qj (i:Nat) {p:Pos} (ha:PE X a (tE X.K W fa)) (hN:X.N[i]?=some x:=by rfl) (hv:BP X.env.scope x:=by first | exact Or.inl rfl | exact Or.inr (Or.inl rfl) | exact Or.inr (Or.inr rfl)) (hd:(x==("__debug__":Str))=false:=by decide)
  (hcd:(x==("__classdict__":Str))=false:=by decide) (hs:starEach [a] X.env=[(false,eval a X.env)]:=by rfl)
  (hbase:attributeBase (.Name x p) "append" X.env (eval (.Name x p) X.env)=eval (.Name x p) X.env:=by rfl) (hline:(apos.endLine==cpos.line)=true:=by rfl)
  (hfew:((backTo cpos (starEach [a] X.env)).all (fun x=>!x.1)&&(backToKw cpos (keywordEach [] X.env)).all (fun x=>x.1.isSome)
   && decide ([a].length+([]:List Keyword).length+(if ([]:List Keyword).isEmpty then 0 else 1)<30))=true:=by rfl)
  (hsw:swapsWith (.Call (.Attribute (.Name x p) "append" apos) [a] [] cpos) none pos.line X.env=pure false:=by rfl) :
  PS X (.Expr (.Call (.Attribute (.Name x p) "append" apos) [a] [] cpos) pos) (tS X.K W (jY i fa)):=
 d7 (pb (oj PySem.F.plainAttrs_list PySem.F.slot_list_append PySem.F.type_list_append Cd (xI hN hv hd hcd) (da_cons ha da_nil hs) hbase hfew hline hs rfl) hsw) fun _ _ _=>pJ
theorem AX (i:Nat) {body:List Stmt} {fi:FI} {g:FS} (hp:PassesOwn (model X.prog X.w) X.A X.env X.xe) (hN:X.N.Nodup) (hi':PI X (.Name x px) iter (tI X.K W fi)) (hb:PSs X body (tS X.K W g)) (hcalm:X.calm=true:=by rfl)
  (hx:X.N[i]?=some x:=by rfl) (hl:Loc X.env.scope x:=by first | exact Or.inl rfl | exact Or.inr rfl) (hf:X.fn x=true\/X.env.scope.names.lookup x=some .local:=by first | exact .inl rfl | exact .inr rfl)
  (hs:∀x,foldedSetIterable iter X.env x=pure x:=by intro _;rfl):PS X (.For (.Name x px) iter body [] pos) (tS X.K W (ig i fi g)):=
 d7 (nu hp hcalm hi' (mi hN hx hl hf) hb hs) fun _ _ _=>zG
end
structure Cp (X:Cx) (N gl:List Str) (vs cs ls lo gs:List Nat):Prop where
 hN:X.N=N
 nd:N.Nodup
 nm:∀x∈N,(x==("__debug__":Str))=false/\(x==("__classdict__":Str))=false
 ng:∀x∈gl,(x==("__debug__":Str))=false/\x ≠ "__name__"
 vis:∀(i:Nat) x,N[i]?=some x->vs.contains i=true->BP X.env.scope x
 cel:∀(i:Nat) x,N[i]?=some x->cs.contains i=true->X.env.scope.names.lookup x=some .cell\/X.env.scope.names.lookup x=some .free
 loc:∀(i:Nat) x,N[i]?=some x->ls.contains i=true->Loc X.env.scope x/\(X.fn x=true\/X.env.scope.names.lookup x=some .local)
 loo:∀(i:Nat) x,N[i]?=some x->lo.contains i=true->X.env.scope.names.lookup x=some .local
 glb:∀(j:Nat) x,gl[j]?=some x->gs.contains j=true->Gl X x
 calm:X.calm=true
 kind:X.env.scope.kind=.function
def xG (sc:Scope) (ks:List NameKind) (o:Option Str):Bool:=match o with
 | some x=>(match sc.names.lookup x with
  | some k=>ks.any fun z=>decide (z=k)
  | none=>false)
 | none=>true
def d6 (N gl:List Str) (vs cs ls lo gs:List Nat) (sc:Scope):Bool:=
 decide (sc.kind=.function)&&(vs.all fun i=>xG sc [.local,.cell,.free] N[i]?)&&(cs.all fun i=>xG sc [.cell,.free] N[i]?)&&(ls.all fun i=>xG sc [.local,.cell] N[i]?)&&(lo.all fun i=>xG sc [.local] N[i]?)&&(gs.all fun j=>xG sc [.globalImplicit] gl[j]?)
def iW (N gl:List Str):Bool:=decide N.Nodup&&(N.all fun x=>!(x==("__debug__":Str))&&!(x==("__classdict__":Str)))&&(gl.all fun x=>!(x==("__debug__":Str))&&!decide (x = "__name__"))
theorem BJ {sc:Scope} {ks:List NameKind} (h:xG sc ks (some x)=true):∃k∈ks,sc.names.lookup x=some k:=by
 unfold xG at h;simp only at h
 split at h
 ·rename_i k e
  simp only [any_eq_true,decide_eq_true_eq] at h
  obtain ⟨z,hz,rfl⟩:=h;exact ⟨z,hz,e⟩
 ·cases h
theorem BR {P:Nat->Bool} {l:List Nat} {i:Nat} (h:l.all P=true) (hi:l.contains i=true):P i=true:=by
 rw [all_eq_true] at h;exact h i (by simpa using hi)
structure CpB (N gl:List Str) (vs cs ls lo gs:List Nat) (sc:Scope):Prop where
 kind:sc.kind=.function
 vis:∀(i:Nat) x,N[i]?=some x->vs.contains i=true->BP sc x
 cel:∀(i:Nat) x,N[i]?=some x->cs.contains i=true->sc.names.lookup x=some .cell\/sc.names.lookup x=some .free
 loc:∀(i:Nat) x,N[i]?=some x->ls.contains i=true->Loc sc x
 loo:∀(i:Nat) x,N[i]?=some x->lo.contains i=true->sc.names.lookup x=some .local
 glb:∀(j:Nat) x,gl[j]?=some x->gs.contains j=true->sc.names.lookup x=some .globalImplicit
theorem Gf {vs:List Nat} {sc:Scope} (h:d6 N gl vs cs ls lo gs sc=true):CpB N gl vs cs ls lo gs sc:=by
 unfold d6 at h;simp only [Bool.and_eq_true,decide_eq_true_eq] at h
 obtain ⟨⟨⟨⟨⟨h0,h1⟩,h2⟩,h3⟩,h4⟩,h5⟩:=h;refine ⟨h0,fun i x e hi=>?_,fun i x e hi=>?_,fun i x e hi=>?_,fun i x e hi=>?_,fun i x e hi=>?_⟩
 ·have q:=BR h1 hi
  rw [e] at q;obtain ⟨k,hk,q⟩:=BJ q;simp only [mem_cons,not_mem_nil,or_false] at hk
  rcases hk with rfl | rfl | rfl
  ·exact .inl q
  ·exact .inr (.inl q)
  ·exact .inr (.inr q)
 ·have q:=BR h2 hi
  rw [e] at q;obtain ⟨k,hk,q⟩:=BJ q;simp only [mem_cons,not_mem_nil,or_false] at hk
  rcases hk with rfl | rfl
  ·exact .inl q
  ·exact .inr q
 ·have q:=BR h3 hi
  rw [e] at q;obtain ⟨k,hk,q⟩:=BJ q;simp only [mem_cons,not_mem_nil,or_false] at hk
  rcases hk with rfl | rfl
  ·exact .inl q
  ·exact .inr q
 ·have q:=BR h4 hi
  rw [e] at q;obtain ⟨k,hk,q⟩:=BJ q;simp only [mem_cons,not_mem_nil,or_false] at hk
  rw [hk] at q;exact q
 ·have q:=BR h5 hi
  rw [e] at q;obtain ⟨k,hk,q⟩:=BJ q;simp only [mem_cons,not_mem_nil,or_false] at hk
  rw [hk] at q;exact q
theorem tq (h:iW N gl=true):N.Nodup/\(∀x∈N,(x==("__debug__":Str))=false/\(x==("__classdict__":Str))=false)/\∀x∈gl,(x==("__debug__":Str))=false/\x ≠ "__name__":=by
 unfold iW at h;simp only [Bool.and_eq_true,decide_eq_true_eq,all_eq_true,Bool.not_eq_true',decide_eq_false_iff_not] at h
 exact ⟨h.1.1,h.1.2,h.2⟩
theorem Cp.fn {P:Program} {w:World} {base:Heap} {vs:List Nat} {sc:Scope} {f:Addr} {cd:Value} {outer:List Env} {s:Shared} {H:Hp} {E:XK}
  (h:d6 N gl vs cs ls lo gs sc=true) (h':iW N gl=true):Cp (jL eG P w K mg base N qual sc f cd A outer s H E).nox N gl vs cs ls lo gs:=by
 obtain ⟨a,b,c⟩:=tq h'
 have q:=Gf h
 exact ⟨rfl,a,b,c,q.vis,q.cel,fun i x e hi=>⟨q.loc i x e hi,.inl rfl⟩,q.loo,q.glb,rfl,q.kind⟩
theorem ye {env:Env} {x:Str} {k:NameKind}:∀{names:List (Str×NameKind)},names.lookup x=some k ->
  (names.map fun (n,k)=>if (k==NameKind.free&&env.scope.kind==.function&&env.kindOf n==some .cell) then (n,NameKind.cell) else (n,k)).lookup x=some k \/
  (k=.free/\(names.map fun (n,k)=>if (k==NameKind.free&&env.scope.kind==.function&&env.kindOf n==some .cell) then (n,NameKind.cell) else (n,k)).lookup x=some .cell)
 | [],h=>by simp at h
 | (n,k')::r,h=>by
  have ih:=@ye env x k r
  rw [map_cons];show List.lookup x ((if (k'==NameKind.free&&env.scope.kind==.function&&env.kindOf n==some .cell)=true then (n,NameKind.cell) else (n,k'))::_)=_\/_/\List.lookup x ((if (k'==NameKind.free&&env.scope.kind==.function&&env.kindOf n==some .cell)=true then (n,NameKind.cell) else (n,k'))::_)=_
  by_cases hc:(k'==NameKind.free&&env.scope.kind==.function&&env.kindOf n==some .cell)=true
  ·rw [if_pos hc]
   cases hx:x==n with
   | true=>
    simp only [lookup_cons,hx] at h ⊢
    cases h;simp only [Bool.and_eq_true,beq_iff_eq] at hc
    exact .inr ⟨hc.1.1,trivial⟩
   | false=>
    simp only [lookup_cons,hx] at h ⊢
    exact ih h
  ·rw [if_neg hc]
   cases hx:x==n with
   | true=>
    simp only [lookup_cons,hx] at h ⊢
    cases h;exact .inl rfl
   | false=>
    simp only [lookup_cons,hx] at h ⊢
    exact ih h
theorem vk {k:NameKind} (h:scope.names.lookup x=some k):(relabel scope env).names.lookup x=some k\/(k=.free/\(relabel scope env).names.lookup x=some .cell):=ye h
theorem Cp.blk {X:Cx} {N gl:List Str} {vs cs ls lo gs vs' cs' ls' lo' gs':List Nat} {scope:Scope} (S:Cp X N gl vs cs ls lo gs) (h:d6 N gl vs' cs' ls' lo' gs' scope=true) (cells C s₀ H₀ ex) :
  Cp (blk X scope cells C s₀ H₀ ex) N gl vs' cs' ls' lo' gs':=by
 have q:=Gf h
 refine ⟨S.hN,S.nd,S.nm,S.ng,fun i x e hi=>?_,fun i x e hi=>?_,fun i x e hi=>?_,fun i x e hi=>?_,fun i x e hi=>?_,S.calm,q.kind⟩
 ·show BP (relabel scope X.env) x
  rcases q.vis i x e hi with z | z | z
  ·rcases vk (env:=X.env) z with y | ⟨y,_⟩
   ·exact .inl y
   ·cases y
  ·rcases vk (env:=X.env) z with y | ⟨y,_⟩
   ·exact .inr (.inl y)
   ·cases y
  ·rcases vk (env:=X.env) z with y | ⟨_,y⟩
   ·exact .inr (.inr y)
   ·exact .inr (.inl y)
 ·show (relabel scope X.env).names.lookup x=some .cell\/(relabel scope X.env).names.lookup x=some .free
  rcases q.cel i x e hi with z | z
  ·rcases vk (env:=X.env) z with y | ⟨y,_⟩
   ·exact .inl y
   ·cases y
  ·rcases vk (env:=X.env) z with y | ⟨_,y⟩
   ·exact .inr y
   ·exact .inl y
 ·show Loc (relabel scope X.env) x/\((scope.names.any fun y=>y.1==x&&y.2==.cell)=true\/(relabel scope X.env).names.lookup x=some .local)
  rcases q.loc i x e hi with z | z
  ·rcases vk (env:=X.env) z with y | ⟨y,_⟩
   ·exact ⟨.inl y,.inr y⟩
   ·cases y
  ·rcases vk (env:=X.env) z with y | ⟨y,_⟩
   ·refine ⟨.inr y,.inl ?_⟩
    rw [any_eq_true];exact ⟨(x,.cell),gW z,by simp⟩
   ·cases y
 ·show (relabel scope X.env).names.lookup x=some .local
  rcases vk (env:=X.env) (q.loo i x e hi) with y | ⟨y,_⟩
  ·exact y
  ·cases y
 ·show (relabel scope X.env).names.lookup x=some .globalImplicit
  rcases vk (env:=X.env) (q.glb i x e hi) with y | ⟨y,_⟩
  ·exact y
  ·cases y
def je (N:List Str) (i:Nat) (cs:List Nat) (sc:Scope):Bool:=
 decide (sc.kind=.function)&&(sc.names.all fun p=>!decide (p.2=.free)||cs.any fun j=>decide (N[j]?=some p.1)) &&
 ((List.range N.length).all fun j=>j==i||(sc.names.all fun p=>!decide (some p.1=N[j]?)||(!decide (p.2=.local)&&!decide (p.2=.cell)))) &&
 (sc.names.all fun p=>!decide (p.2=.local)||decide (sc.names.lookup p.1=some .local)) &&
 (sc.names.all fun p=>!decide (p.2=.free)||sc.names.all fun q=>!decide (q.1=p.1)||!decide (q.2=.cell))
theorem lP {vs:List Nat} {i:Nat} (S:Cp X N gl vs cs ls lo gs) (h:je N i cs scope=true):cZ X.N [i] X.env.scope scope:=by
 unfold je at h;simp only [Bool.and_eq_true,decide_eq_true_eq,all_eq_true,Bool.or_eq_true,Bool.not_eq_true',decide_eq_false_iff_not,any_eq_true,mem_range,beq_iff_eq] at h
 obtain ⟨⟨⟨⟨h0,h1⟩,h2⟩,h3⟩,h4⟩:=h;refine ⟨h0,fun n hn=>?_,fun j x e hj=>?_,fun x hx e=>?_,fun n hn hc=>?_⟩
 ·rcases h1 _ hn with z | ⟨j,hj,e⟩
  ·exact absurd rfl z
  ·exact S.cel j n e (by simpa using hj)
 ·rw [S.hN] at e
  rcases h2 j (Kw e).1 with z | z
  ·rw [z];exact List.mem_singleton.mpr rfl
  ·exfalso
   rcases hj with y | y
   ·rcases z _ y with w | w
    ·exact w e.symm
    ·exact w.1 rfl
   ·rcases z _ y with w | w
    ·exact w e.symm
    ·exact w.2 rfl
 ·rcases h3 x hx with z | z
  ·exact absurd e z
  ·exact z
 ·rcases h4 _ hn with z | z
  ·exact z rfl
  ·rcases z _ hc with w | w
   ·exact w rfl
   ·exact w rfl
structure Fx (X Y:Cx):Prop where
 prog:Y.prog=X.prog
 w:Y.w=X.w
 K:Y.K=X.K
 mg:Y.mg=X.mg
 base:Y.base=X.base
 A:Y.A=X.A
def Rm (X:Cx):Prop:=X.A.units+64<cLine
def gz (X:Cx) (x:Str) (n:Nat) (den:List KB->b9):Prop:=∃(k:Nat) (f:Addr) (fd:FuncData) (ps:List Str),bT X.prog X.w X.K X.mg X.base eG k f fd ps (pq X.K n den)/\Room k X.A/\X.mg x=some (.ref f)/\PySem.W.keepIn X.K (.ref f)=true/\Binds X.K fd ps []
def J1 (X:Cx) (x:Str) (d:KB):Prop:=∃u v,X.mg x=some u/\RelV v u/\∀H,Rep X.K H v d
section
variable {X:Cx} {N gl:List Str} {vs cs ls lo gs:List Nat} {W:XW} {a b c e:Expr} {es:List Expr} {pos p:Pos} {fa fb fc:F1} {fl:FL} {ga gb:FB} {g1 g2:FS}
theorem cv (S:Cp X N gl vs cs ls lo gs) (i:Nat) (hN:N[i]?=some x) (hv:vs.contains i=true):PE X (.Name x pos) (tE X.K W (ae i)):=by
 have m:=S.nm x (mem_of_getElem? hN)
 exact A5 (xI (by rw [S.hN];exact hN) (S.vis i x hN hv) m.1 m.2)
theorem cm (S:Cp X N gl vs cs ls lo gs) (i:Nat) (hN:N[i]?=some x) (hv:vs.contains i=true):PE X (.Name x pos) (tE X.K W (cz i)):=by
 have m:=S.nm x (mem_of_getElem? hN)
 exact xi (xI (by rw [S.hN];exact hN) (S.vis i x hN hv) m.1 m.2)
theorem Cp.g (S:Cp X N gl vs cs ls lo gs) {j:Nat} (hj:gl[j]?=some x) (hg:gs.contains j=true):Gl X x/\(x==("__debug__":Str))=false/\x ≠ "__name__":=
 ⟨S.glb j x hj hg,S.ng x (mem_of_getElem? hj)⟩
def C8:R2:=fun x y H Q=>nX (fun i j=>.bl (decide (i<j))) x y H Q\/∃i j,x=.str i/\y=.str j/\Q (.bl (decide (i.cps.toList<j.cps.toList))) H
theorem Dn:OpR X (compareOp .Lt) C8:=op_lt.or pT
def AN:KB->KB->Option KB
 | .str i,.str j=>some (.bool (!decide (i.cps.toList<j.cps.toList)))
 | _,_=>none
abbrev mP:KB->KB->Option KB:=fun a b=>(Kc a b).or (AN a b)
def zL:R2:=fun x y H Q=>nX (fun i j=>.bl (decide (j<=i))) x y H Q\/∃i j,x=.str i/\y=.str j/\Q (.bl (!decide (i.cps.toList<j.cps.toList))) H
theorem pU:OpR X (compareOp .GtE) (fun x y H Q=>∃i j,x=.str i/\y=.str j/\Q (.bl (!decide (i.cps.toList<j.cps.toList))) H):=by
 intro pins s U H x y v u Q I rx ry h;obtain ⟨i,j,rfl,rfl,q⟩:=h;obtain ⟨t,rfl⟩:=rx;obtain ⟨t',rfl⟩:=ry;exact PySem.P.ge_str (BU I q rfl)
theorem Do:OpR X (compareOp .GtE) zL:=op_ge.or pU
theorem wV:GOp K (fun x y H Q=>∃i j,x=.str i/\y=.str j/\Q (.bl (!decide (i.cps.toList<j.cps.toList))) H) AN:=by
 intro x y H Q a b d ra rb e k
 cases ra<;>cases rb<;>simp only [AN] at e<;>try cases e
 rename_i i j;exact ⟨i,j,rfl,rfl,k _ (.bl _)⟩
theorem AH:GOp K zL mP:=(Bu fun _ _=>.bl _).or wV
structure Ck (X:Cx) (op:CmpOp) (r:R2) (g:KB->KB->Option KB):Prop where
 o:OpR X (compareOp op) r
 g:GOp X.K r g
theorem sE (R:Rm X):Ck X .Lt C8 jX:=⟨Dn,AG⟩
theorem De (R:Rm X):Ck X .LtE (nX fun i j=>.bl (decide (i<=j))) BO:=⟨Dk,Bu fun _ _=>.bl _⟩
theorem vZ (R:Rm X):Ck X .Gt (nX fun i j=>.bl (decide (j<i))) qN:=⟨Dl,Bu fun _ _=>.bl _⟩
theorem IE (R:Rm X):Ck X .GtE zL mP:=⟨Do,AH⟩
theorem gN (R:Rm X):Ck X .Eq (pM X.K false) eC:=⟨Ac R,AI⟩
theorem pN (R:Rm X):Ck X .NotEq (pM X.K true) iw:=⟨zX R,AF⟩
theorem sG (R:Rm X):Ck X .In (sy X.K false) (eA false):=⟨Ab R,t8⟩
theorem nY (R:Rm X):Ck X .NotIn (sy X.K true) (eA true):=⟨pS R,t8⟩
theorem ct {op:CmpOp} {r:R2} {g:KB->KB->Option KB} (k:Ck X op r g) (ha:PE X a (tE X.K W fa)) (hb:PE X b (tE X.K W fb)) (hm:behindInMarks op b=false):PT X (.Compare a [op] [b] pos) (tT X.K W (bo aw (aE g fa fb))):=AV k.o k.g ha hb hm
theorem cc {den:List KB->b9} (S:Cp X N gl vs cs ls lo gs) (j:Nat) (hj:gl[j]?=some x) (hg:gs.contains j=true) (C:gz X x n den) (ha:PA X (e::es) (tA X.K W fl)) (he:starEach (e::es) X.env=(false,eval e X.env)::starEach es X.env) (hpl:(backTo pos (starEach es X.env)).any (·.1)=false) :
  PE X (.Call (.Name x p) (e::es) [] pos) (tE X.K W (ah n den fl)):=by
 obtain ⟨k,f,fd,ps,F,hr,hm,hk,hb⟩:=C;exact xl F hr hm hk hb ha (S.g hj hg).1 (S.g hj hg).2.1 he hpl
abbrev vh (X:Cx) (N gl:List Str) (vs cs ls lo gs:List Nat) (R:Cx->Prop):Prop:=∀Y:Cx,Cp Y N gl vs cs ls lo gs->Fx X Y->R Y
theorem co {fi:FI} {fe:F1} {fc:FB} {vs' cs' lo' gs':List Nat} (S:Cp X N gl vs cs ls lo gs) (s:Sh) (i:Nat) (hx:N[i]?=some x) (h1:je N i cs scope=true) (h2:d6 N gl vs' cs' [i] lo' gs' scope=true)
  (hi':PI X (.Name x px) iter (tI X.K W fi)) (hc:vh X N gl vs' cs' [i] lo' gs' fun Y=>PF Y ifs (tT Y.K W0 fc)) (he:vh X N gl vs' cs' [i] lo' gs' fun Y=>PE Y elt (tE Y.K W0 fe)) (hs:∀x,foldedSetIterable iter X.env x=pure x) :
  PE X (.ListComp elt [⟨.Name x px,iter,ifs,0⟩] scope pos) (tE X.K W (aG s i fi fc fe)):=by
 have B:=fun cells C s₀ H₀ ex=>S.blk h2 cells C s₀ H₀ ex
 have L:=fun cells C s₀ H₀ ex=>(B cells C s₀ H₀ ex).loc i x hx (by simp)
 exact xk (X:=X) s i (lP S h1) (by rw [S.hN];exact S.nd) hi' (fun cells C s₀ H₀ ex=>hc _ (B cells C s₀ H₀ ex) ⟨rfl,rfl,rfl,rfl,rfl,rfl⟩) (fun cells C s₀ H₀ ex=>he _ (B cells C s₀ H₀ ex) ⟨rfl,rfl,rfl,rfl,rfl,rfl⟩)
  S.calm (by rw [S.hN];exact hx) (fun cells C s₀ H₀ ex=>(L cells C s₀ H₀ ex).1) (fun cells C s₀ H₀ ex=>(L cells C s₀ H₀ ex).2) hs
theorem my {gens:List Comprehension} {line:Nat} (hk:X.env.scope.kind=.function) (hy:X.env.scope.names.lookup y=some .local) (hl:(pos'.line==pos.line)=true)
  (hn:(scope.names.any fun (n,k)=>n==y&&(k==NameKind.local||k==NameKind.cell))=false):swapsWith (.ListComp elt gens scope pos) (some (.Name y pos')) line X.env=pure true:=by
 have e1:(X.env.blockKind==ScopeKind.function)=true:=by unfold Env.blockKind;rw [hk];rfl
 have e2:(X.env.kindOf y==some NameKind.local)=true:=by unfold Env.kindOf;rw [hy];rfl
 show (pure (X.env.blockKind==.function&&X.env.kindOf y==some .local&&pos'.line==pos.line&&!(scope.names.any fun (n,k)=>n==y&&(k==NameKind.local||k==NameKind.cell))):Sem Bool)=pure true
 rw [e1,e2,hl,hn];rfl
theorem cs_append (S:Cp X N gl vs cs ls lo gs) (i:Nat) (hi:N[i]?=some x) (hv:vs.contains i=true) (ha:PE X a (tE X.K W fa)) (hs:starEach [a] X.env=[(false,eval a X.env)])
  (hbase:attributeBase (.Name x p) "append" X.env (eval (.Name x p) X.env)=eval (.Name x p) X.env) (hline:(apos.endLine==cpos.line)=true)
  (hfew:((backTo cpos (starEach [a] X.env)).all (fun x=>!x.1)&&(backToKw cpos (keywordEach [] X.env)).all (fun x=>x.1.isSome)
   && decide ([a].length+([]:List Keyword).length+(if ([]:List Keyword).isEmpty then 0 else 1)<30))=true)
  (hsw:swapsWith (.Call (.Attribute (.Name x p) "append" apos) [a] [] cpos) none pos.line X.env=pure false) :
  PS X (.Expr (.Call (.Attribute (.Name x p) "append" apos) [a] [] cpos) pos) (tS X.K W (jY i fa)):=
 qj i ha (by rw [S.hN];exact hi) (S.vis i x hi hv) (S.nm x (mem_of_getElem? hi)).1 (S.nm x (mem_of_getElem? hi)).2 hs hbase hline hfew hsw
end
def Kh (fa fb:F1):F1:=aU fa fun p=>aU fb fun q=>fun Γ=>match p.s,p.d,q.d with
 | .lst .leaf,.list ds,.int k=>if dC k&&decide (ds.length*k.toNat<=sizeLine) then .ok ⟨.lst .leaf,.list (List.replicate k.toNat ds).flatten⟩ Γ else .no
 | _,_,_=>.no
def vn:Option (Option PV)->Bool
 | some (some ⟨.lst .leaf,.list _⟩)=>true
 | _=>false
def IF (i j k:Nat) (p q r:PV) (Γ:Ev):eF:=if i<Γ.length/\j<Γ.length/\k<Γ.length/\p.s.isView=false/\q.s.isView=false/\r.s.isView=false then .nx (((Γ.set i (some p)).set j (some q)).set k (some r)) else .no
def J5 (i j k:Nat) (f:F1):FS:=nQ f fun p Γ=>match p.s,p.d with
 | .tup [s1,s2,s3],.tuple [d1,d2,d3]=>IF i j k ⟨s1,d1⟩ ⟨s2,d2⟩ ⟨s3,d3⟩ Γ
 | _,_=>.no
def xJ (n:Nat) (ss:List Sh) (ds:List KB):Ev:=(ss.zip ds).map (fun x=>some ⟨x.1,x.2⟩)++List.replicate (n-ds.length) none
def mX (n:Nat) (ss:List Sh) (g:FS) (ds:List KB):b9:=match g (xJ n ss ds) with
 | .nx _=>.ok ⟨.leaf,.none⟩
 | .rt p=>.ok p
 | .er c _=>.er c
 | _=>.no
def vb:List Sh->List PV->Bool
 | [],[]=>true
 | s::ss,p::ps=>T.coer s p&&vb ss ps
 | _,_=>false
def gJ (own:Bool) (j:Nat) (ss:List Sh) (den:List KB->b9) (fl:FL):FS:=fun Γ=>match fl Γ with
 | .ok ps Γ1=>if vb ss ps&&decide (j<Γ1.length) then (match den (ps.map (·.d)) with
  | .ok p=>if p.s.isView then .no else .nx (Γ1.set j (some (if own then p else ⟨.leaf,p.d⟩)))
  | _=>.no) else .no
 | .er c Γ1=>.er c Γ1
 | .no=>.no
section
variable {K:Fg} {W:XW} {U:St} {H:Hp} {Q:VK} {D:cJ} {fa fb:F1} {fl:FL}
theorem Hk:∀{Fs:List (List Addr)},(∀F∈Fs,F=[])->Fs.flatten=[]
 | [],_=>rfl
 | F::r,h=>by rw [flatten_cons,h F mem_cons_self,Hk fun G hG=>h G (Ku _ hG)];rfl
theorem Own.leaves {O:List Addr} {v:V} {ds:List KB} (h:Own K O H (.lst .leaf) G v (.list ds)):∃l vs,v=.ref l/\G=[l]/\H l=some (.lst vs)/\vs.length=ds.length/\∀(j:Nat) u d,vs[j]?=some u->ds[j]?=some d->Rep K (aC H O) u d:=by
 cases h with
 | @lst _ l vs _ Fs hsv hp hl hf nd q=>
  have hF:∀F∈Fs,F=[]:=fun F hF=>by
   obtain ⟨j,hj,e⟩:=getElem_of_mem hF;have o:=q j (vs[j]'(by omega)) (ds[j]'(by omega)) F (Ks _) (Ks _) (by rw [Ks hj,e])
   cases o;rfl
  refine ⟨l,vs,rfl,by rw [Hk hF],hp,hl,fun j u d h1 h2=>?_⟩
  have hj:=(Kw h2).1
  have o:=q j u d (Fs[j]'(by omega)) h1 h2 (Ks _)
  generalize Fs[j]'(by omega)=F at o
  cases o with
  | leaf r=>exact r
theorem Own.mkLeaves {O:List Addr} {l:Addr} {ds:List KB} (hp:H l=some (.lst vs)) (hl:vs.length=ds.length) (q:∀(j:Nat) u d,vs[j]?=some u->ds[j]?=some d->Rep K (aC H O) u d):Own K O H (.lst .leaf) [l] (.ref l) (.list ds):=by
 have hF:(List.replicate ds.length ([]:List Addr)).flatten=[]:=Hk fun F hF=>(List.mem_replicate.mp hF).2
 have o:Own K O H (.lst .leaf) (l::(List.replicate ds.length ([]:List Addr)).flatten) (.ref l) (.list ds):=by
  refine .lst rfl hp hl (by simp) (by rw [hF];simp) fun j u d F h1 h2 h3=>?_
  have:F=[]:=(List.mem_replicate.mp (mem_of_getElem? h3)).2
  subst this;exact .leaf (q j u d h1 h2)
 rw [hF] at o;exact o
theorem mM {o:Option (Option PV)} (h:vn o=true):∃ds,o=some (some ⟨.lst .leaf,.list ds⟩):=by
 unfold vn at h;split at h
 ·exact ⟨_,rfl⟩
 ·cases h
end
def FN (K:Fg) (ss:List Sh) (den:List KB->b9):Sp:=fun vs H Q _=>vs.length=ss.length/\∃(O:List Addr) (Gs:List (List Addr)) (ds:List KB),(Gs.flatten++O).Nodup/\(∀a∈Gs.flatten++O,H a≠none)/\Gs.length=ss.length/\ds.length=ss.length/\(∀s∈ss,s.isView=false) /\
 (∀(i:Nat) v d G s,vs[i]?=some v->ds[i]?=some d->Gs[i]?=some G->ss[i]?=some s->Own K (Gs.flatten++O) H s G v d)/\match den ds with
 | .ok p=>∀v H' G,RetOk K (aC H Gs.flatten) O p v H' G->Q v H'
 | .er _=>False
 | .no=>False
section
variable {P:Program} {w:World} {K:Fg} {mg:Str->Option Value} {base:Heap}
theorem mR {H:Hp} {O:List Addr} {ss:List Sh} {ds:List KB} (hn:ss.length<=N.length) (hv:vs.length=ss.length) (hG:Gs.length=ss.length) (hd:ds.length=ss.length) (nd:(Gs.flatten++O).Nodup) (inH:∀a∈Gs.flatten++O,H a≠none) (nv:∀s∈ss,s.isView=false)
  (ow:∀(i:Nat) v d G s,vs[i]?=some v->ds[i]?=some d->Gs[i]?=some G->ss[i]?=some s->Own K (Gs.flatten++O) H s G v d) :
  EnvOk K (aC H Gs.flatten) O (Gs++List.replicate (N.length-ss.length) []) H (L2.start N vs) (xJ N.length ss ds):=by
 have fl:(Gs++List.replicate (N.length-ss.length) ([]:List Addr)).flatten=Gs.flatten:=by simp
 have pm:(O++Gs.flatten).Perm (Gs.flatten++O):=perm_append_comm
 refine ⟨by simp [L2.start,xJ,hd,hv],by simp [xJ,hd,hG],hid_le,by rw [fl];exact pm.nodup_iff.mpr nd,fun a ha=>inH a (by rw [fl] at ha;exact pm.mem_iff.mp ha),fun a ha=>by rw [fl] at ha;unfold aC;rw [if_pos ha],fun i p hp=>?_⟩
 unfold xJ at hp;have hzl:((ss.zip ds).map (fun x=>some (⟨x.1,x.2⟩:PV))).length=ss.length:=by simp [hd]
 by_cases hi:i<ss.length
 ·rw [getElem?_append_left (by rw [hzl];exact hi),getElem?_map] at hp
  have hz:(ss.zip ds)[i]?=some (ss[i]'hi,ds[i]'(by omega)):=by
   rw [Ks (by simp;omega),List.getElem_zip]
  rw [hz] at hp
  cases hp;refine ⟨nv _ (getElem_mem _),vs[i]'(by omega),Gs[i]'(by omega),?_,?_,?_⟩
  ·unfold L2.start
   rw [getElem?_append_left (by simp;omega),getElem?_map,Ks (by omega)]
   rfl
  ·rw [getElem?_append_left (by omega),Ks]
  ·refine (ow i _ _ _ _ (Ks _) (Ks (by omega)) (Ks (by omega)) (Ks hi)).perm fun a ha=>?_
   rw [fl] at ha;exact pm.mem_iff.mp ha
 ·rw [getElem?_append_right (by rw [hzl];omega),getElem?_replicate] at hp
  split at hp<;>cases hp
theorem w9 {st:Stmt} {f:Addr} {k:Nat} {g:FS} {ss:List Sh} (F:Fun K x qual st f fd) (S:aR N ps (cf st)) (hss:ss.length=ps.length)
  (hb:∀(cdv:Value) (A:Around) (outer:List Env) (s:Shared) (H:Hp) (E:XK),Room k (A.deeper (envOfC qual (cf st) s.heap.objs.size f cdv)) ->
   PSs (jL eG P w K mg base N qual (cf st) f cdv A outer s H E).nox (fG st) (tS K W0 g)):bT P w K mg base eG (k+1) f fd ps (FN K ss (mX N.length ss g)):=by
 have hpl:ps.length<=N.length:=by have:=congrArg List.length S.pre;rw [length_take] at this;omega
 refine F.ok S (fun vs H Q E h=>by rw [h.1];exact hss) (fun cdv A outer s H vs Q E hr h=>⟨_,hb cdv A outer s H E hr,?_⟩)
 obtain ⟨hl,O,Gs,ds,nd,inH,hG,hd,nv,ow,w⟩:=h;refine ⟨_,O,_,xJ N.length ss ds,mR (by omega) hl hG hd nd inH nv ow,?_⟩
 unfold mX at w
 cases e:g (xJ N.length ss ds) with
 | nx Γ'=>
  rw [e] at w;exact fun U' H' Fs' E'=>w .non H' [] ⟨E'.same,(fun _ z=>nomatch z),(fun _ z=>nomatch z),nodup_nil,.leaf .non,rfl⟩
 | rt p=>rw [e] at w;exact w
 | bk Γ'=>rw [e] at w;exact w.elim
 | ct Γ'=>rw [e] at w;exact w.elim
 | er c Γ'=>rw [e] at w;exact w.elim
 | no=>rw [e] at w;exact w.elim
end
theorem Own.step {O:List Addr} {H:Hp} {s:Sh} {v:V} {d:KB} (h:Own K O H s G v d) (hs:s.isView=false) (e:Same (aC H M) H') (hM:∀a∈M,a∈O) (hG:∀a∈G,a∉M) (hO:∀a∈O',a∈O\/aC H M a=none):Own K O' H' s G v d:=by
 induction h with
 | view r=>cases hs
 | leaf r=>
  refine .leaf (r.mono fun b o q=>?_)
  have hb:b∉O:=fun z=>by unfold aC at q;rw [if_pos z] at q;cases q
  have q1:H b=some o:=hid_le b o q
  have q2:aC H M b=some o:=h9 q1 fun z=>hb (hM b z)
  exact h9 (e b o q2) fun z=>(hO b z).elim hb fun y=>by rw [q2] at y;cases y
 | lst hv hp hl hf nd q ih=>exact .lst hv (e _ _ (h9 hp (hG _ mem_cons_self))) hl hf nd fun i v d F h1 h2 h3=>ih i v d F h1 h2 h3 hv fun a ha=>hG a (Ku _ (ia h3 ha))
 | @tup ss p vs ds Fs hv hp hn hl hf hs' nd q ih=>
  have q2:aC H M p=some (.tup vs):=h9 hp fun z=>hn (hM _ z)
  exact .tup hv (e _ _ q2) (fun z=>(hO _ z).elim hn fun y=>by rw [q2] at y;cases y) hl hf hs' nd fun i v d F s h1 h2 h3 h4=>ih i v d F s h1 h2 h3 h4 (hv _ (mem_of_getElem? h4)) fun a ha=>hG a (ia h3 ha)
section
variable {K:Fg} {W:XW} {U:St} {H:Hp} {Q:VK} {D:cJ} {fa fb:F1} {fl:FL}
theorem EnvOk.step {O:List Addr} {Γ:Ev} (E:EnvOk K He (M++O) Fs H U Γ) (e:Same (aC H M) H') (hHe:∀a∈M,He a=none) (gn:G.Nodup) (gf:∀a∈G,aC H M a=none) (gi:∀a∈G,H' a≠none):EnvOk K He (G++O) Fs H' U Γ:=by
 have nd:=E.nd
 rw [append_assoc] at nd;obtain ⟨n1,n2,n3⟩:=Kv nd;have st:∀a∈O++Fs.flatten,H' a≠none/\a∉G:=fun a ha=>by
  have h1:H a≠none:=E.inH a (by rw [append_assoc];exact Ko _ ha)
  cases h2:H a with
  | none=>exact absurd h2 h1
  | some o=>
   have h3:aC H M a=some o:=h9 h2 fun z=>n3 a z a ha rfl
   exact ⟨by rw [e a o h3];exact Option.some_ne_none _,fun z=>by have:=gf a z;rw [h3] at this;cases this⟩
 refine ⟨E.len1,E.len2,fun b o q=>e b o (h9 (E.same b o q) fun z=>by have:=hHe b z;rw [q] at this;cases this),?_,fun a ha=>?_,E.fresh,fun i p q=>?_⟩
 ·rw [append_assoc]
  exact List.nodup_append.mpr ⟨gn,n2,fun a ha b hb z=>(st b hb).2 (z▸ha)⟩
 ·rw [append_assoc] at ha
  rcases Kq ha with z | z
  ·exact gi a z
  ·exact (st a z).1
 ·obtain ⟨hv,v,F,h1,h2,h3⟩:=E.slot i p q
  refine ⟨hv,v,F,h1,h2,h3.step hv e (fun a ha=>Kp _ (Kp _ ha)) (fun a ha z=>n3 a z a (Ko _ (ia h2 ha)) rfl) fun a ha=>?_⟩
  rw [append_assoc] at ha;rcases Kq ha with z | z
  ·exact .inr (gf a z)
  ·exact .inl (by rw [append_assoc];exact Ko _ z)
theorem ot:∀{ss:List Sh} {ps:List PV},vb ss ps=true->ps.length=ss.length
 | [],[],_=>rfl
 | s::ss,p::ps,h=>by
  simp only [vb,Bool.and_eq_true] at h
  rw [length_cons,length_cons,ot h.2]
 | [],_::_,h=>by cases h
 | _::_,[],h=>by cases h
theorem GL:∀{ss:List Sh} {ps:List PV} {i:Nat} {s:Sh} {p:PV},vb ss ps=true->ss[i]?=some s->ps[i]?=some p->T.coer s p=true
 | s::ss,p::ps,0,_,_,h,h1,h2=>by
  simp only [vb,Bool.and_eq_true] at h
  simp at h1 h2
  subst h1 h2;exact h.1
 | s::ss,p::ps,i+1,_,_,h,h1,h2=>by
  simp only [vb,Bool.and_eq_true] at h
  exact GL (i:=i) h.2 (by simpa using h1) (by simpa using h2)
 | [],[],i,_,_,_,h1,_=>by simp at h1
 | [],_::_,_,_,_,h,_,_=>by cases h
 | _::_,[],_,_,_,h,_,_=>by cases h
def mj:List Sh->List (List Addr)->List (List Addr)
 | s::ss,G::Gs=>aF s G::mj ss Gs
 | _,_=>[]
theorem HA:∀{ss:List Sh} {Gs:List (List Addr)},Gs.length=ss.length->(mj ss Gs).length=ss.length
 | [],[],_=>rfl
 | s::ss,G::Gs,h=>by simp [mj,HA (ss:=ss) (Gs:=Gs) (by simpa using h)]
 | [],_::_,h=>by cases h
 | _::_,[],h=>by cases h
theorem i3:∀{ss:List Sh} {Gs:List (List Addr)},(mj ss Gs).flatten.Sublist Gs.flatten
 | [],Gs=>by cases Gs<;>exact nil_sublist _
 | s::ss,[]=>nil_sublist _
 | s::ss,G::Gs=>by
  rw [mj,flatten_cons,flatten_cons];refine List.Sublist.append ?_ i3
  cases s<;>first | exact nil_sublist _ | exact List.Sublist.refl _
theorem Hz:∀{ss:List Sh} {Gs:List (List Addr)} {i:Nat} {s:Sh} {G:List Addr},ss[i]?=some s->(mj ss Gs)[i]?=some G->∃G0,Gs[i]?=some G0/\G=aF s G0
 | s::ss,G::Gs,0,_,_,h1,h2=>by
  simp [mj] at h1 h2
  subst h1;exact ⟨G,rfl,h2.symm⟩
 | s::ss,G::Gs,i+1,_,_,h1,h2=>by
  obtain ⟨G0,e1,e2⟩:=Hz (ss:=ss) (Gs:=Gs) (i:=i) (by simpa using h1) (by simpa [mj] using h2)
  exact ⟨G0,by simpa using e1,e2⟩
 | [],Gs,i,_,_,h1,_=>by simp at h1
 | _::_,[],i,_,_,_,h2=>by simp [mj] at h2
theorem i9:∀{Gs:List (List Addr)} {i j:Nat} {A B:List Addr},Gs.flatten.Nodup->Gs[i]?=some A->Gs[j]?=some B->i≠j->∀a∈A,a∉B
 | G::Gs,0,j+1,A,B,nd,h1,h2,_,a,ha=>by
  rw [flatten_cons] at nd;simp at h1 h2
  subst h1;exact fun z=>(Kv nd).2.2 a ha a (ia h2 z) rfl
 | G::Gs,i+1,0,A,B,nd,h1,h2,_,a,ha=>by
  rw [flatten_cons] at nd;simp at h1 h2
  subst h2;exact fun z=>(Kv nd).2.2 a z a (ia h1 ha) rfl
 | G::Gs,i+1,j+1,A,B,nd,h1,h2,hij,a,ha=>by
  rw [flatten_cons] at nd;exact i9 (Gs:=Gs) (i:=i) (j:=j) (Kv nd).2.1 (by simpa using h1) (by simpa using h2) (by omega) a ha
 | G::Gs,0,0,A,B,_,_,_,h,_,_=>absurd rfl h
 | [],i,j,A,B,_,h1,_,_,_,_=>by simp at h1
theorem vM {own:Bool} {j:Nat} {ss:List Sh} {den:List KB->b9} {E:XK} (h:tS K W (gJ own j ss den fl) D U H):b5 (cF (FN K ss den) [] E (tA K W fl)) (av j) D U H:=by
 obtain ⟨He,O,Fs,Γ,E0,h⟩:=h;refine ⟨He,O,Fs,Γ,E0,?_⟩
 unfold gJ at h
 cases e:fl Γ with
 | er c Γ'=>rw [e] at h;exact fun H' Fs' s E'=>h U H' Fs' E'
 | no=>rw [e] at h;exact h
 | ok ps Γ1=>
  rw [e] at h;intro vs H1 Gs Fs1 A;have h:jT K W He O D (if vb ss ps&&decide (j<Γ1.length) then (match den (ps.map (·.d)) with | .ok p=>if p.s.isView then .no else .nx (Γ1.set j (some (if own then p else ⟨.leaf,p.d⟩))) | _=>.no) else .no):=h
  cases hok:(vb ss ps&&decide (j<Γ1.length)) with
  | false=>rw [hok] at h;exact h.elim
  | true=>
   rw [hok] at h;simp only [Bool.and_eq_true,decide_eq_true_eq] at hok
   obtain ⟨hok,hj⟩:=hok;have hpl:=ot hok
   have hGl:Gs.length=ss.length:=A.len2.trans hpl
   have ndA:=A.env.nd
   rw [append_assoc] at ndA;obtain ⟨n1,n2,n3⟩:=Kv ndA;have sl:=i3 (ss:=ss) (Gs:=Gs)
   have E1:EnvOk K He ((mj ss Gs).flatten++O) Fs1 H1 U Γ1:=A.env.drop (fun a ha=>by
    rcases Kq ha with z | z
    ·exact Kp _ (sl.subset z)
    ·exact Ko _ z) (by
     obtain ⟨m1,m2,m3⟩:=Kv A.env.ndO;exact List.nodup_append.mpr ⟨m1.sublist sl,m2,fun a ha b hb=>m3 a (sl.subset ha) b hb⟩)
   have nd2:((mj ss Gs).flatten++(O++Fs1.flatten)).Nodup:=by rw [<-append_assoc];exact E1.nd
   have inH2:∀a∈(mj ss Gs).flatten++(O++Fs1.flatten),H1 a≠none:=fun a ha=>E1.inH a (by rw [append_assoc];exact ha)
   have nv:∀s∈ss,s.isView=false:=fun s hs=>by
    obtain ⟨i,hi,e⟩:=getElem_of_mem hs;exact qw (GL (i:=i) (p:=ps[i]'(by omega)) hok (by rw [Ks hi,e]) (Ks _))
   refine ⟨by rw [append_nil,A.len1,hpl],O++Fs1.flatten,mj ss Gs,ps.map (·.d),nd2,inH2,HA hGl,by rw [length_map,hpl],nv,fun i v d G s a1 a2 a3 a4=>?_,?_⟩
   ·rw [append_nil] at a1
    obtain ⟨G0,b1,b2⟩:=Hz a4 a3;subst b2;rw [getElem?_map] at a2
    cases e2:ps[i]? with
    | none=>rw [e2] at a2;cases a2
    | some q=>
     rw [e2] at a2
     cases a2;have o:=A.own i v q G0 a1 e2 b1
     have c:=GL hok a4 e2
     refine o.coer c (fun a ha=>?_) fun a ha z=>?_
     ·rcases Kq ha with z | z
      ·exact Kp _ (Kp _ (sl.subset z))
      ·rw [append_assoc];exact Ko _ z
     ·cases s with
      | leaf=>
       exfalso
       rcases Kq z with y | y
       ·-- a handed part of another
        obtain ⟨B,hB,hy⟩:=List.mem_flatten.mp y;obtain ⟨m,hm,eB⟩:=getElem_of_mem hB;have hm2:m<ss.length:=by rw [<-HA hGl];exact hm
        obtain ⟨B0,c1,c2⟩:=Hz (Ks hm2) (by rw [Ks hm,eB])
        by_cases hmi:m=i
        ·subst hmi
         rw [Ks hm2] at a4;have q4:=Option.some.inj a4
         rw [c2,q4] at hy;simp [aF] at hy
        ·exact i9 n1 b1 c1 (Ne.symm hmi) a ha (Fl (c2▸hy))
       ·exact n3 a (ia b1 ha) a y rfl
      | view=>simp [T.coer] at c
      | lst s=>exact ha
      | tup ss=>exact ha
   ·cases ed:den (ps.map (·.d)) with
    | er c=>rw [ed] at h;exact h.elim
    | no=>rw [ed] at h;exact h.elim
    | ok p=>
     rw [ed] at h;intro v H2 G r;show D.nx (U.set j (some v)) H2
     have h:jT K W He O D (if p.s.isView then .no else .nx (Γ1.set j (some (if own then p else ⟨.leaf,p.d⟩)))):=h
     rw [r.nv] at h;have hHe:∀a∈(mj ss Gs).flatten,He a=none:=fun a ha=>(A.new a (Kp _ (sl.subset ha))).elim (E0.fresh a) E0.same.free
     have E2:=E1.step (G:=G) r.same hHe r.nd r.fresh r.inH
     have fr:∀a∈G,He a=none:=fun a ha=>by
      by_cases hm:a∈(mj ss Gs).flatten
      ·exact hHe a hm
      ·have:=r.fresh a ha
       unfold aC at this;rw [if_neg hm] at this;exact E1.same.free this
     have ow:Own K (G++O++Fs1.flatten) H2 p.s G v p.d:=by rw [append_assoc];exact r.own
     cases own with
     | true=>exact h _ H2 _ (EnvOk.put E2 ow r.nv fr hj)
     | false=>
      have c:T.coer .leaf p=true:=by show (!p.s.isView||bB p.d)=true;rw [r.nv];rfl
      have o:=ow.coer (s:=.leaf) (O':=O++Fs1.flatten) c js fun a ha z=>by
       exfalso
       have nd:=E2.nd
       rw [append_assoc] at nd;exact (Kv nd).2.2 a ha a z rfl
      exact h _ H2 _ (EnvOk.put (G:=[]) (p:=⟨.leaf,p.d⟩) (v:=v) (by rw [nil_append];exact E2.dropL) (by rw [nil_append];exact o) rfl (fun a ha=>by simp at ha) hj)
end
section
variable {X:Cx}
variable {N gl:List Str} {vs cs ls lo gs:List Nat} {W:XW} {a b c e:Expr} {es:List Expr} {pos p:Pos} {fa fb fc:F1} {fl:FL} {g:FS}
def Bs (X:Cx) (x:Str) (ss:List Sh) (den:List KB->b9):Prop:=∃(k:Nat) (f:Addr) (fd:FuncData) (ps:List Str),bT X.prog X.w X.K X.mg X.base eG k f fd ps (FN X.K ss den)/\Room k X.A/\X.mg x=some (.ref f)/\PySem.W.keepIn X.K (.ref f)=true/\Binds X.K fd ps []
end
def xF:Expr->Bool
 | .Starred ..=>true
 | _=>false
theorem aH {e:Expr} (h:xF e=false):starEach (e::es) env=(false,eval e env)::starEach es env:=by
 cases e<;>first | rfl | cases h
theorem eH {a:Expr} (h:xF a=false):starEach [a] env=[(false,eval a env)]:=aH h
theorem rD {a b:Expr} (h:xF a=false) (h2:xF b=false):starEach [a,b] env=[(false,eval a env),(false,eval b env)]:=by rw [aH h,eH h2]
def DefOk (P:Program) (w:World) (K:Fg) (mg:Str->Option Value) (base:Heap) (j:Nat) (x:Str) (n:Nat) (den:List KB->b9):Prop:=
 ∃(f:Addr) (fd:FuncData) (ps:List Str),bT P w K mg base eG j f fd ps (pq K n den)/\mg x=some (.ref f)/\PySem.W.keepIn K (.ref f)=true/\Binds K fd ps []
def DefOkM (P:Program) (w:World) (K:Fg) (mg:Str->Option Value) (base:Heap) (j:Nat) (x:Str) (ss:List Sh) (den:List KB->b9):Prop:=
 ∃(f:Addr) (fd:FuncData) (ps:List Str),bT P w K mg base eG j f fd ps (FN K ss den)/\mg x=some (.ref f)/\PySem.W.keepIn K (.ref f)=true/\Binds K fd ps []
def lZ (K:Fg) (mg:Str->Option Value) (x:Str) (d:KB):Prop:=∃u v,mg x=some u/\RelV v u/\∀H,Rep K H v d
theorem DefOk.cal {j k:Nat} {den:List KB->b9} (h:DefOk X.prog X.w X.K X.mg X.base j x n den) (hr:Room k X.A) (hj:decide (j<=k)=true):gz X x n den:=by
 obtain ⟨f,fd,ps,F,a,b,c⟩:=h;exact ⟨j,f,fd,ps,F,hr.mono (of_decide_eq_true hj),a,b,c⟩
theorem DefOkM.cal {j k:Nat} {ss:List Sh} {den:List KB->b9} (h:DefOkM X.prog X.w X.K X.mg X.base j x ss den) (hr:Room k X.A) (hj:decide (j<=k)=true):Bs X x ss den:=by
 obtain ⟨f,fd,ps,F,a,b,c⟩:=h;exact ⟨j,f,fd,ps,F,hr.mono (of_decide_eq_true hj),a,b,c⟩
def HJ:KB->V
 | .none=>.non
 | .bool b=>.bl b
 | .int i=>.int i
 | .str x=>.str x
 | _=>.non
def qy:List Value->List KB->Bool
 | .int i _::r,.int j::ds=>decide (i=j)&&qy r ds
 | .str x _::r,.str y::ds=>decide (x=y)&&qy r ds
 | [],[]=>true
 | _,_=>false
theorem Gx:∀{us:List Value} {ds:List KB},qy us ds=true->Vals (ds.map HJ) us/\∀d∈ds,Sc (HJ d) d
 | [],[],_=>⟨.nil,fun d hd=>(nomatch hd)⟩
 | .int i t::r,.int j::ds,h=>by
  simp only [qy,Bool.and_eq_true,decide_eq_true_eq] at h
  obtain ⟨rfl,h⟩:=h;obtain ⟨a,b⟩:=Gx h;refine ⟨.cons ⟨t,rfl⟩ a,fun d hd=>?_⟩
  rcases Kr hd with z | z
  ·rw [z];exact .int i
  ·exact b d z
 | .str i t::r,.str j::ds,h=>by
  simp only [qy,Bool.and_eq_true,decide_eq_true_eq] at h
  obtain ⟨rfl,h⟩:=h;obtain ⟨a,b⟩:=Gx h;refine ⟨.cons ⟨t,rfl⟩ a,fun d hd=>?_⟩
  rcases Kr hd with z | z
  ·rw [z];exact .str i
  ·exact b d z
def A8 (its:Array Value) (ds:List KB):Bool:=decide (its.size<=sizeLine)&&qy its.toList ds
theorem xn {dd:Option Addr} {its:Array Value} {sl:Array (Option Value)} {ds:List KB} (hm:mg x=some (.ref a)) (l:K.lookup a=some ⟨.type "tuple",dd,.seq its n,sl⟩) (h:A8 its ds=true):lZ K mg x (.tuple ds):=by
 unfold A8 at h;simp only [Bool.and_eq_true,decide_eq_true_eq] at h
 obtain ⟨v,s⟩:=Gx h.2;refine ⟨.ref a,.ref a,hm,rfl,fun H=>.tup (vs:=ds.map HJ) (.inr ⟨_,its,n,l,rfl,rfl,h.1,v⟩) (by simp) fun i v d h1 h2=>?_⟩
 rw [getElem?_map,h2] at h1
 cases h1;exact (s d (mem_of_getElem? h2)).rep
theorem xo {i:Int} {t:Tok} (hm:mg x=some (.int i t)):lZ K mg x (.int i):=⟨.int i t,.int i,hm,⟨t,rfl⟩,fun H=>.int i⟩
theorem Au {m:List KB->b9} {H:Hp} {ns:List Int} {E:XK} (h:m [.list (ns.map .int)]=.ok ⟨.leaf,.bool true⟩) (hS:SqL K H a (ns.map V.int)):pq K 1 m [.ref a] H (fun v _=>v=.bl true) E:=by
 refine ⟨rfl,[],[.list (ns.map .int)],nodup_nil,(fun _ z=>nomatch z),⟨rfl,fun i v d h1 h2=>?_⟩,?_⟩
 ·rw [oP]
  match i,h1,h2 with
  | 0,h1,h2=>
   cases h1
   cases h2;refine .lst hS (by simp) fun i v d h1 h2=>?_
   rw [getElem?_map] at h1 h2
   cases e:ns[i]? with
   | none=>rw [e] at h1;cases h1
   | some z=>
    rw [e] at h1 h2
    cases h1
    cases h2;exact .int z
  | i+1,h1,h2=>simp at h1
 ·rw [h]
  intro v H' G r
  have o:=r.own.rep
  cases o;rfl
end T
namespace TQ
open PySem PySem.Spec L2 T
open PyProof.Rows hiding St
variable {x y:Str} {op':CmpOp} {r':R2} {g':KB->KB->Option KB} {scope:Scope} {px pos' cpos:Pos} {iter elt tg:Expr} {ifs:List Expr} {fi:FI} {fe:F1} {vs' cs' lo' gs':List Nat} {den:List KB->b9}
structure Q (p:Prop):Prop where
 p:p
section
variable {X:Cx} {N gl:List Str} {vs cs ls lo gs:List Nat} {W:XW} {a b c e:Expr} {es:List Expr} {pos p:Pos} {fa fb fc:F1} {fl:FL} {ga gb:FB} {g1 g2 g:FS}
theorem w_cv (S:Cp X N gl vs cs ls lo gs) (i:Nat) (hN:N[i]?=some x) (hv:vs.contains i=true):Q (PE X (.Name x pos) (tE X.K W (ae i))):=⟨T.cv S i hN hv⟩
theorem jn (S:Cp X N gl vs cs ls lo gs) (i:Nat) (hN:N[i]?=some x) (hv:vs.contains i=true):Q (PE X (.Name x pos) (tE X.K W (cz i))):=⟨T.cm S i hN hv⟩
theorem w_ck (S:Cp X N gl vs cs ls lo gs) (j:Nat) {d:KB} (hj:gl[j]?=some x) (hg:gs.contains j=true) (h:J1 X x d):Q (PE X (.Name x pos) (tE X.K W (eK d))):=⟨by
 obtain ⟨u,v,h1,h2,h3⟩:=h;have q:=S.g hj hg
 exact xj q.1 h1 h2 h3 q.2.1⟩
theorem w_de_int {j:Int} {k pos}:Q (PE X (.Constant (.int j) k pos) (tE X.K W (eK (.int j)))):=⟨T.de_int ⟩
theorem ml {j:Bool} {k pos}:Q (PE X (.Constant (.bool j) k pos) (tE X.K W (eK (.bool j)))):=⟨aZ dM fun _ _ _=>so fun _=>.bl j⟩
theorem xV {k pos}:Q (PE X (.Constant .none k pos) (tE X.K W (eK .none))):=⟨aZ Bx fun _ _ _=>so fun _=>.non⟩
theorem w_de_str {j:Str} {k pos}:Q (PE X (.Constant (.str j) k pos) (tE X.K W (eK (.str j)))):=⟨aZ Gq fun _ _ _=>so fun _=>.str j⟩
theorem ny (ha:Q (PE X a (tE X.K W fa))) (hb:Q (PE X b (tE X.K W fb))):Q (PE X (.BinOp a .Add b pos) (tE X.K W (aE aX fa fb))):=⟨have ha:=ha.p;have hb:=hb.p;aZ (gO Ad ha hb) fun _ _ _=>fK (Bu fun _ _=>.int _)⟩
theorem qX (ha:Q (PE X a (tE X.K W fa))) (hb:Q (PE X b (tE X.K W fb))):Q (PE X (.BinOp a .Sub b pos) (tE X.K W (aE wY fa fb))):=⟨have ha:=ha.p;have hb:=hb.p;aZ (gO zV ha hb) fun _ _ _=>fK (Bu fun _ _=>.int _)⟩
theorem Cb (ha:Q (PE X a (tE X.K W fa))) (hb:Q (PE X b (tE X.K W fb))):Q (PE X (.BinOp a .Mult b pos) (tE X.K W (aE lA fa fb))):=⟨have ha:=ha.p;have hb:=hb.p;aZ (gO zY ha hb) fun _ _ _=>fK (oQ (fun i j h=>by
 simp only [qB,Bool.or_eq_true,Bool.and_eq_true,decide_eq_true_eq] at h
 exact h) fun _ _=>.int _)⟩
theorem BI (ha:Q (PE X a (tE X.K W fa))) (hb:Q (PE X b (tE X.K W fb))):Q (PE X (.BinOp a .FloorDiv b pos) (tE X.K W (aE gp fa fb))):=⟨have ha:=ha.p;have hb:=hb.p;aZ (gO wq ha hb) fun _ _ _=>fK (oQ (fun i j h=>by
 simp only [xu,Bool.and_eq_true,decide_eq_true_eq] at h
 exact h) fun _ _=>.int _)⟩
theorem jm (ha:Q (PE X a (tE X.K W fa))) (hb:Q (PE X b (tE X.K W fb))):Q (PE X (.BinOp a .Mod b pos) (tE X.K W (aE bS fa fb))):=⟨have ha:=ha.p;have hb:=hb.p;aZ (gO zZ ha hb) fun _ _ _=>fK (oQ (fun i j h=>by
 simp only [xt,decide_eq_true_eq] at h
 exact h) fun _ _=>.int _)⟩
theorem qY (ha:Q (PE X a (tE X.K W fa))) (hb:Q (PE X b (tE X.K W fb))):Q (PE X (.BinOp a .Pow b pos) (tE X.K W (aE wZ fa fb))):=⟨have ha:=ha.p;have hb:=hb.p;aZ (gO zW ha hb) fun _ _ _=>fK (oQ (fun i j h=>by
 simp only [xr,Bool.and_eq_true,decide_eq_true_eq] at h
 exact ⟨h.1.1,h.1.2,h.2⟩) fun _ _=>.int _)⟩
theorem HG {op:CmpOp} {r:R2} {g:KB->KB->Option KB} (k:Ck X op r g) (ha:Q (PE X a (tE X.K W fa))) (hb:Q (PE X b (tE X.K W fb))) (hm:behindInMarks op b=false):Q (PE X (.Compare a [op] [b] pos) (tE X.K W (aE g fa fb))):=⟨have ha:=ha.p;have hb:=hb.p;A6 k.o k.g ha hb hm⟩
theorem Cn {op:CmpOp} {r:R2} {g:KB->KB->Option KB} (k:Ck X op r g) (k':Ck X op' r' g') (ha:Q (PE X a (tE X.K W fa))) (hb:Q (PE X b (tE X.K W fb))) (hc:Q (PE X c (tE X.K W fc))) (hm:lastMarks [op,op'] [b,c]=false):Q (PE X (.Compare a [op,op'] [b,c] pos) (tE X.K W (uZ g g' fa fb fc))):=⟨have ha:=ha.p;have hb:=hb.p;have hc:=hc.p;uv k.o k.g k'.o k'.g ha hb hc hm⟩
theorem Fh {op} (h:Q (PE X a (tE X.K W fa))):Q (PE X (.BoolOp op [a] pos) (tE X.K W fa)):=⟨L2.pe_one h.p⟩
theorem Fe (ha:Q (PE X a (tE X.K W fa))) (hb:Q (PE X (.BoolOp .And (b::es) pos) (tE X.K W fb))):Q (PE X (.BoolOp .And (a::b::es) pos) (tE X.K W (lG fa fb))):=⟨have ha:=ha.p;have hb:=hb.p;aZ (sX ha hb) fun _ _ _=>zJ⟩
theorem EV (hc:Q (PT X c (tT X.K W ga))) (ha:Q (PE X a (tE X.K W fa))) (hb:Q (PE X b (tE X.K W fb))):Q (PE X (.IfExp c a b pos) (tE X.K W (qh ga fa fb))):=⟨have hc:=hc.p;have ha:=ha.p;have hb:=hb.p;aZ (kH hc ha hb) fun _ _ _=>CZ⟩
theorem w_de_idx (ha:Q (PE X a (tE X.K W fa))) (hb:Q (PE X b (tE X.K W fb))) (hs:EW b):Q (PE X (.Subscript a b pos) (tE X.K W (ak fa fb))):=⟨T.de_idx ha.p hb.p hs⟩
theorem qK (s:Sh) (h:Q (PA X es (tA X.K W fl))):Q (PE X (.List es pos) (tE X.K W (bz s fl))):=⟨have h:=h.p;aZ (BY h) fun _ _ _=>vR⟩
theorem w_de_tup {x1} (h:Q (PA X es (tA X.K W fl))):Q (PE X (.Tuple es x1 pos) (tE X.K W (cy fl))):=⟨have h:=h.p;aZ (u4 h) fun _ _ _=>zv⟩
theorem w_da_nil :Q (PA X [] (tA X.K W af)):=⟨T.da_nil ⟩
theorem w_da_cons (ha:Q (PE X e (tE X.K W fa))) (hr:Q (PA X es (tA X.K W fl))) (hs:starEach (e::es) X.env=(false,eval e X.env)::starEach es X.env):Q (PA X (e::es) (tA X.K W (aa fa fl))):=⟨T.da_cons ha.p hr.p hs⟩
theorem HF {fc:FB} (S:Cp X N gl vs cs ls lo gs) (s:Sh) (i:Nat) (hx:N[i]?=some x) (h1:je N i cs scope=true) (h2:d6 N gl vs' cs' [i] lo' gs' scope=true) (hi':Q (PI X (.Name x px) iter (tI X.K W fi))) (hc:vh X N gl vs' cs' [i] lo' gs' fun Y=>Q (PF Y ifs (tT Y.K W0 fc))) (he:vh X N gl vs' cs' [i] lo' gs' fun Y=>Q (PE Y elt (tE Y.K W0 fe))) (hs:∀x,foldedSetIterable iter X.env x=pure x):Q (PE X (.ListComp elt [⟨.Name x px,iter,ifs,0⟩] scope pos) (tE X.K W (aG s i fi fc fe))):=⟨T.co S s i hx h1 h2 hi'.p (fun Y S F=>(hc Y S F).p) (fun Y S F=>(he Y S F).p) hs⟩
theorem eJ {spos:Pos} {fc:FB} (S:Cp X N gl vs cs ls lo gs) (own:Bool) (j:Nat) (s:Sh) (i:Nat) (hy:N[j]?=some y) (hyl:lo.contains j=true) (hx:N[i]?=some x) (hsl:(pos'.line==pos.line)=true) (hsn:(scope.names.any fun (n,k)=>n==y&&(k==NameKind.local||k==NameKind.cell))=false) (h1:je N i cs scope=true) (h2:d6 N gl vs' cs' [i] lo' gs' scope=true) (hi':Q (PI X (.Name x px) iter (tI X.K W fi))) (hc:vh X N gl vs' cs' [i] lo' gs' fun Y=>Q (PF Y ifs (tT Y.K W0 fc))) (he:vh X N gl vs' cs' [i] lo' gs' fun Y=>Q (PE Y elt (tE Y.K W0 fe))) (hs:∀x,foldedSetIterable iter X.env x=pure x):Q (PS X (.Assign [.Name y pos'] (.ListComp elt [⟨.Name x px,iter,ifs,0⟩] scope pos) spos) (tS X.K W (aP own j (aG s i fi fc fe)))):=⟨by
 have hi':=hi'.p
 have hc:=fun Y S F=>(hc Y S F).p
 have he:=fun Y S F=>(he Y S F).p
 have B:=fun cells C s₀ H₀ ex=>S.blk h2 cells C s₀ H₀ ex
 have L:=fun cells C s₀ H₀ ex=>(B cells C s₀ H₀ ex).loc i x hx (by simp)
 exact mT (X:=X) own j s i (lP S h1) (by rw [S.hN];exact S.nd) hi' (fun cells C s₀ H₀ ex=>hc _ (B cells C s₀ H₀ ex) ⟨rfl,rfl,rfl,rfl,rfl,rfl⟩) (fun cells C s₀ H₀ ex=>he _ (B cells C s₀ H₀ ex) ⟨rfl,rfl,rfl,rfl,rfl,rfl⟩)
  (my S.kind (S.loo j y hy hyl) hsl hsn) (by rw [S.hN];exact hy) (S.loo j y hy hyl) S.calm (by rw [S.hN];exact hx) (fun cells C s₀ H₀ ex=>(L cells C s₀ H₀ ex).1) (fun cells C s₀ H₀ ex=>(L cells C s₀ H₀ ex).2) hs⟩
theorem rg (S:Cp X N gl vs cs ls lo gs) (j:Nat) (hj:gl[j]?=some ("len":Str)) (hg:gs.contains j=true) (hm:X.mg "len"=none) (ha:Q (PA X (e::es) (tA X.K W fl))) (he:starEach (e::es) X.env=(false,eval e X.env)::starEach es X.env) (hpl:(backTo pos (starEach es X.env)).any (·.1)=false):Q (PE X (.Call (.Name "len" p) (e::es) [] pos) (tE X.K W (cX bZ fl))):=⟨have ha:=ha.p;yC (call_len_seq.or jO) AJ uE hm ha (S.g hj hg).1 (S.g hj hg).2.2 (S.g hj hg).2.1 he hpl⟩
theorem BH (S:Cp X N gl vs cs ls lo gs) (j:Nat) (hj:gl[j]?=some ("all":Str)) (hg:gs.contains j=true) (hm:X.mg "all"=none) (ha:Q (PA X (e::es) (tA X.K W fl))) (he:starEach (e::es) X.env=(false,eval e X.env)::starEach es X.env) (hpl:(backTo pos (starEach es X.env)).any (·.1)=false):Q (PE X (.Call (.Name "all" p) (e::es) [] pos) (tE X.K W (cX (iy false) fl))):=⟨have ha:=ha.p;yC (Fj S.calm) AL o4 hm ha (S.g hj hg).1 (S.g hj hg).2.2 (S.g hj hg).2.1 he hpl⟩
theorem rh (S:Cp X N gl vs cs ls lo gs) (j:Nat) (hj:gl[j]?=some ("int":Str)) (hg:gs.contains j=true) (hm:X.mg "int"=none) (ha:Q (PA X (e::es) (tA X.K W fl))) (he:starEach (e::es) X.env=(false,eval e X.env)::starEach es X.env) (hpl:(backTo pos (starEach es X.env)).any (·.1)=false):Q (PE X (.Call (.Name "int" p) (e::es) [] pos) (tE X.K W (cX uc fl))):=⟨have ha:=ha.p;DT qz AK El hm ha (S.g hj hg).1 (S.g hj hg).2.2 (S.g hj hg).2.1 he hpl⟩
theorem Fm (S:Cp X N gl vs cs ls lo gs) (j:Nat) (hj:gl[j]?=some ("list":Str)) (hg:gs.contains j=true) (hm:X.mg "list"=none) (ha:Q (PE X e (tE X.K W fa))) (hs:starEach [e] X.env=[(false,eval e X.env)]):Q (PE X (.Call (.Name "list" p) [e] [] pos) (tE X.K W (qJ fa))):=⟨have ha:=ha.p;qt hm ha (S.g hj hg).1 hs⟩
theorem w_cc {n:Nat} (S:Cp X N gl vs cs ls lo gs) (j:Nat) (hj:gl[j]?=some x) (hg:gs.contains j=true) (C:gz X x n den) (ha:Q (PA X (e::es) (tA X.K W fl))) (he:starEach (e::es) X.env=(false,eval e X.env)::starEach es X.env) (hpl:(backTo pos (starEach es X.env)).any (·.1)=false):Q (PE X (.Call (.Name x p) (e::es) [] pos) (tE X.K W (ah n den fl))):=⟨T.cc S j hj hg C ha.p he hpl⟩
theorem eL (S:Cp X N gl vs cs ls lo gs) (j:Nat) (hj:gl[j]?=some ("range":Str)) (hg:gs.contains j=true) (hm:X.mg "range"=none) (ha:Q (PA X [a] (tA X.K W fl))) (hs:starEach [a] X.env=[(false,eval a X.env)]):Q (PI X tg (.Call (.Name "range" p) [a] [] pos) (tI X.K W (gm fl))):=⟨have ha:=ha.p;DS hm ha (S.g hj hg).1 hs⟩
theorem Cj (S:Cp X N gl vs cs ls lo gs) (j:Nat) (hj:gl[j]?=some ("range":Str)) (hg:gs.contains j=true) (hm:X.mg "range"=none) (ha:Q (PA X [a,b] (tA X.K W fl))) (hs:starEach [a,b] X.env=[(false,eval a X.env),(false,eval b X.env)]) (hs2:starEach [b] X.env=[(false,eval b X.env)]):Q (PI X tg (.Call (.Name "range" p) [a,b] [] pos) (tI X.K W (yx fl))):=⟨have ha:=ha.p;DR hm ha (S.g hj hg).1 hs hs2⟩
theorem nt (ha:Q (PE X a (tE X.K W fa))):Q (PI X tg a (tI X.K W (bA fa))):=⟨have ha:=ha.p;uO (nq ha) fun _ _ _=>vS⟩
theorem w_ct {op:CmpOp} {r:R2} {g:KB->KB->Option KB} (k:Ck X op r g) (ha:Q (PE X a (tE X.K W fa))) (hb:Q (PE X b (tE X.K W fb))) (hm:behindInMarks op b=false):Q (PT X (.Compare a [op] [b] pos) (tT X.K W (bo aw (aE g fa fb)))):=⟨T.ct k ha.p hb.p hm⟩
theorem Ci {op:CmpOp} {r:R2} {g:KB->KB->Option KB} (k:Ck X op r g) (k':Ck X op' r' g') (ha:Q (PE X a (tE X.K W fa))) (hb:Q (PE X b (tE X.K W fb))) (hc:Q (PE X c (tE X.K W fc))) (hm:lastMarks [op,op'] [b,c]=false):Q (PT X (.Compare a [op,op'] [b,c] pos) (tT X.K W (bo aw (uZ g g' fa fb fc)))):=⟨have ha:=ha.p;have hb:=hb.p;have hc:=hc.p;uk k.o k.g k'.o k'.g ha hb hc hm⟩
theorem Hi (ha:Q (PT X a (tT X.K W ga))):Q (PT X (.UnaryOp .Not a pos) (tT X.K W (jQ ga))):=⟨have ha:=ha.p;o7 (sL ha) fun _ _ _=>vX⟩
theorem Fo (ha:Q (PT X a (tT X.K W ga))):Q (PW X (.BoolOp .And [a] pos) (tT X.K W ga)):=⟨have ha:=ha.p;v7 ha⟩
theorem w_dw_or1 (ha:Q (PT X a (tT X.K W ga))):Q (PW X (.BoolOp .Or [a] pos) (tT X.K W ga)):=⟨have ha:=ha.p;zP ha⟩
theorem Ff (ha:Q (PT X a (tT X.K W ga))) (hb:Q (PW X (.BoolOp .And (b::es) pos) (tT X.K W gb))):Q (PW X (.BoolOp .And (a::b::es) pos) (tT X.K W (gx ga gb))):=⟨have ha:=ha.p;have hb:=hb.p;yH (zQ ha hb) fun _ _ _=>vY⟩
theorem w_dw_or (ha:Q (PT X a (tT X.K W ga))) (hb:Q (PW X (.BoolOp .Or (b::es) pos) (tT X.K W gb))):Q (PW X (.BoolOp .Or (a::b::es) pos) (tT X.K W (lV ga gb))):=⟨have ha:=ha.p;have hb:=hb.p;yH (Df ha hb) fun _ _ _=>zI⟩
theorem w_pw_pt (h:Q (PW X a (tT X.K W ga))):Q (PT X a (tT X.K W ga)):=⟨L2.PW.pt h.p⟩
theorem w_dt_tru (ha:Q (PE X a (tE X.K W fa))) (he:∀whole,isTrue a X.env whole=(do let v <-whole;standAt a.pos;holding [v] (truthy v))):Q (PT X a (tT X.K W (bo g4 fa))):=⟨have ha:=ha.p;o7 (E9 ha he) fun _ _ _=>zw⟩
theorem me :Q (PSs X [] (tS X.K W bt)):=⟨uN pe fun _ _ _=>vP⟩
theorem mq {st:Stmt} (h1:Q (PS X st (tS X.K W g1))):Q (PSs X [st] (tS X.K W g1)):=⟨have h1:=h1.p;dv h1⟩
theorem b4 {st:Stmt} {rest:List Stmt} (h1:Q (PS X st (tS X.K W g1))) (h2:Q (PSs X rest (tS X.K W g2))):Q (PSs X (st::rest) (tS X.K W (aI g1 g2))):=⟨have h1:=h1.p;have h2:=h2.p;uN (cK h1 h2) fun _ _ _=>zx⟩
theorem qW (ha:Q (PE X a (tE X.K W fa))):Q (PS X (.Return (some a) pos) (tS X.K W (bh fa))):=⟨have ha:=ha.p;d7 (iH ha) fun _ _ _=>zy⟩
theorem md {A B:List Stmt} (hc:Q (PT X c (tT X.K W ga))) (ha:Q (PSs X A (tS X.K W g1))) (hb:Q (PSs X B (tS X.K W g2))):Q (PS X (.If c A B pos) (tS X.K W (fz ga g1 g2))):=⟨have hc:=hc.p;have ha:=ha.p;have hb:=hb.p;d7 (dh hc ha hb) fun _ _ _=>zC⟩
theorem Fd (S:Cp X N gl vs cs ls lo gs) (i:Nat) {body:List Stmt} {g:FS} (hx:N[i]?=some x) (hl:ls.contains i=true) (hp:PassesOwn (model X.prog X.w) X.A X.env X.xe) (hi':Q (PI X (.Name x px) iter (tI X.K W fi))) (hb:Q (PSs X body (tS X.K W g))) (hs:∀x,foldedSetIterable iter X.env x=pure x):Q (PS X (.For (.Name x px) iter body [] pos) (tS X.K W (ig i fi g))):=⟨have hi':=hi'.p;have hb:=hb.p;AX i hp (by rw [S.hN];exact S.nd) hi' hb S.calm (by rw [S.hN];exact hx) (S.loc i x hx hl).1 (S.loc i x hx hl).2 hs⟩
theorem qZ (S:Cp X N gl vs cs ls lo gs) (own:Bool) (i:Nat) (hi:N[i]?=some x) (hl:ls.contains i=true) (hs:swapsWith a (some (.Name x pos')) pos.line X.env=pure false) (ha:Q (PE X a (tE X.K W fa))):Q (PS X (.Assign [.Name x pos'] a pos) (tS X.K W (aP own i fa))):=⟨have ha:=ha.p;AW own i (by rw [S.hN];exact S.nd) ha (by rw [S.hN];exact hi) (S.loc i x hi hl).1 hs (S.loc i x hi hl).2⟩
theorem iJ (S:Cp X N gl vs cs ls lo gs) (own:Bool) (i j:Nat) {ss:List Sh} (hi:N[i]?=some y) (hl:ls.contains i=true) (hj:gl[j]?=some x) (hg:gs.contains j=true) (C:Bs X x ss den) (ha:Q (PA X (e::es) (tA X.K W fl))) (he:starEach (e::es) X.env=(false,eval e X.env)::starEach es X.env) (hpl:(backTo cpos (starEach es X.env)).any (·.1)=false) (hs:swapsWith (.Call (.Name x p) (e::es) [] cpos) (some (.Name y pos')) pos.line X.env=pure false):Q (PS X (.Assign [.Name y pos'] (.Call (.Name x p) (e::es) [] cpos) pos) (tS X.K W (gJ own i ss den fl))):=⟨by
 have ha:=ha.p
 obtain ⟨k,f,fd,ps,F,hr,hm,hk,hb⟩:=C;exact d7 (qH (by rw [S.hN];exact S.nd) (by rw [S.hN];exact hi) (S.loc i y hi hl).1 (ES F hr (S.g hj hg).1 hm hk hb .nil om ha (S.g hj hg).2.1 he hpl) hs (S.loc i y hi hl).2) fun _ _ _=>vM⟩
theorem Cg (S:Cp X N gl vs cs ls lo gs) (i:Nat) {apos:Pos} (hi:N[i]?=some x) (hv:vs.contains i=true) (ha:Q (PE X a (tE X.K W fa))) (hs:starEach [a] X.env=[(false,eval a X.env)]) (hbase:attributeBase (.Name x p) "append" X.env (eval (.Name x p) X.env)=eval (.Name x p) X.env) (hline:(apos.endLine==cpos.line)=true) (hfew:((backTo cpos (starEach [a] X.env)).all (fun x=>!x.1)&&(backToKw cpos (keywordEach [] X.env)).all (fun x=>x.1.isSome)
   && decide ([a].length+([]:List Keyword).length+(if ([]:List Keyword).isEmpty then 0 else 1)<30))=true) (hsw:swapsWith (.Call (.Attribute (.Name x p) "append" apos) [a] [] cpos) none pos.line X.env=pure false):Q (PS X (.Expr (.Call (.Attribute (.Name x p) "append" apos) [a] [] cpos) pos) (tS X.K W (jY i fa))):=⟨T.cs_append S i hi hv ha.p hs hbase hline hfew hsw⟩
theorem jZ :Q (PF X [] (tT X.K W0 aO)):=⟨Er By fun U H Q h=>by
 obtain ⟨He,O,Fs,Γ,E,h⟩:=h;exact h H Fs (Same.refl _) E fun _ z=>.inl z⟩
theorem Hh (h:Q (PT X c (tT X.K W0 ga))):Q (PF X [c] (tT X.K W0 ga)):=⟨have h:=h.p;sQ h⟩
end
end TQ
namespace T
open PySem PySem.Spec L2
open PyProof.Rows hiding St
variable {He:Hp} {Fs:List (List Addr)} {Γ:Ev} {X:Cx} {pins:List (Addr×Obj)} {U:St} {h':Heap} {t':Nat} {fp:List Addr} {elts:List Expr} {pos:Pos}
def HY:FS:=fun _=>.no
def uY (c:FB) (g:FS):Nat->Ev->eF
 | 0,_=>.no
 | n+1,Γ=>match c Γ with
  | .ok true Γ1=>(match g Γ1 with
   | .nx Γ2=>uY c g n Γ2
   | .ct Γ2=>uY c g n Γ2
   | .bk Γ2=>.nx Γ2
   | .rt p=>.rt p
   | .er e Γ2=>.er e Γ2
   | .no=>.no)
  | .ok false Γ1=>.nx Γ1
  | .er e Γ1=>.er e Γ1
  | .no=>.no
def B1 (n:Nat) (c:FB) (g:FS):FS:=uY c g n
section
variable {K:Fg} {W:XW} {U:St} {H:Hp} {Q:VK} {D:cJ} {fa fb:F1} {fl:FL}
theorem r9 {n:Nat} {c:FB} {g:FS} (h:tS K W (B1 n c g) D U H):xK (tT K W c) (tS K W g) D U H:=by
 obtain ⟨He,O,Fs,Γ,E,h⟩:=h;refine ⟨fun m U' H'=>∃Γk Fk,EnvOk K He O Fk H' U' Γk/\jT K W He O D (uY c g m Γk),⟨n,Γ,Fs,E,h⟩,?_⟩
 rintro m U' H' ⟨Γk,Fk,Ek,hw⟩
 cases m with
 | zero=>exact hw.elim
 | succ m=>
  refine ⟨He,O,Fk,Γk,Ek,?_⟩
  rw [uY] at hw
  cases e:c Γk with
  | er x Γ1=>rw [e] at hw;exact fun H2 Fs2 s E2=>hw U' H2 Fs2 E2
  | no=>rw [e] at hw;exact hw
  | ok b Γ1=>
   rw [e] at hw;intro H2 Fs2 s2 E2 n2
   cases b with
   | false=>rw [if_neg Bool.false_ne_true];exact hw U' H2 Fs2 E2
   | true=>
    rw [if_pos rfl];refine ⟨fun U3 H3=>∃Γ3 F3,EnvOk K He O F3 H3 U3 Γ3/\jT K W He O D (uY c g m Γ3),fun U3 H3 q=>⟨m,Nat.lt_succ_self _,q⟩,He,O,Fs2,Γ1,E2,?_⟩
    have hw:jT K W He O D (match g Γ1 with | .nx Γ2=>uY c g m Γ2 | .ct Γ2=>uY c g m Γ2 | .bk Γ2=>.nx Γ2 | .rt p=>.rt p | .er e Γ2=>.er e Γ2 | .no=>.no):=hw
    cases eb:g Γ1 with
    | nx Γ'=>rw [eb] at hw;exact fun U2 H2 F2 E2=>⟨Γ',F2,E2,hw⟩
    | ct Γ'=>rw [eb] at hw;exact fun U2 H2 F2 E2=>⟨Γ',F2,E2,hw⟩
    | bk Γ'=>rw [eb] at hw;exact fun U2 H2 F2 E2=>hw U2 H2 F2 E2
    | rt p=>rw [eb] at hw;exact fun u H2 G r=>hw u H2 G r
    | er x Γ'=>rw [eb] at hw;exact fun U2 H2 F2 E2=>hw U2 H2 F2 E2
    | no=>rw [eb] at hw;exact hw
theorem EnvOk.chgF {O:List Addr} {i:Nat} {ds:List KB} (E:EnvOk K He O Fs H U Γ) (h:Γ[i]?=some (some ⟨.lst .leaf,.list ds⟩)) :
  ∃l vs,U[i]?=some (some (.ref l))/\H l=some (.lst vs)/\vs.length=ds.length/\(∀(j:Nat) u d,vs[j]?=some u->ds[j]?=some d->Rep K (aC H (O++Fs.flatten)) u d) /\
   ∀(vs':List V) (ds':List KB),vs'.length=ds'.length->(∀(j:Nat) u d,vs'[j]?=some u->ds'[j]?=some d->Rep K (aC H (O++Fs.flatten)) u d)->EnvOk K He O Fs (upd H l (.lst vs')) U (Γ.set i (some ⟨.lst .leaf,.list ds'⟩)):=by
 obtain ⟨hv,v,F,h1,E1,o1,sub⟩:=E.move h;have hi:i<Γ.length:=(Kw h).1
 obtain ⟨_,v0,F0,h10,h20,o0⟩:=E.slot i _ h;obtain ⟨l,vs,rfl,rfl,hp,hl,hr⟩:=o1.leaves;obtain ⟨l',vs',e0,e1,hp',hl',hr'⟩:=o0.leaves;rw [h1] at h10
 cases h10
 cases e0;rw [hp] at hp'
 cases hp'
 refine ⟨l,vs,h1,hp,hl,hr',fun ws ds' hw q=>?_⟩
 have hlF:l∈Fs.flatten:=sub l (Kp _ (List.mem_singleton.mpr rfl))
 have hHe:He l=none:=E.fresh l hlF
 have E4:=E1.mutO (o:=.lst ws) (Kp _ (List.mem_singleton.mpr rfl)) hp hHe
 have ownL:Own K ([l]++O++(Fs.set i []).flatten) (upd H l (.lst ws)) (.lst .leaf) [l] (.ref l) (.list ds'):=by
  refine Own.mkLeaves bL hw fun j u d a1 a2=>?_
  rw [hid_upd (Kp _ (Kp _ (List.mem_singleton.mpr rfl)))];refine (q j u d a1 a2).mono (dW (Same.refl _) fun a ha=>.inl ?_)
  rcases Kq ha with z | z
  ·rcases Kq z with z | z
   ·rw [List.mem_singleton.mp z];exact Ko _ hlF
   ·exact Kp _ z
  ·exact Ko _ (sub a (Ko _ z))
 have fin:=EnvOk.put (i:=i) (p:=⟨.lst .leaf,.list ds'⟩) (v:=.ref l) E4 ownL rfl (fun a ha=>by rw [List.mem_singleton.mp ha];exact hHe) (by rw [length_set];exact hi)
 rw [set_set,set_set,yV h1] at fin;rw [e1] at h20;rw [yV h20] at fin;exact fin
end
theorem oN:∀{ns:List Int} {us:List Value},Vals (ns.map V.int) us->IntsAre us ns
 | [],_,.nil=>.nil
 | n::ns,_,.cons r t=>by
  obtain ⟨tk,rfl⟩:=(show ∃t,_=Value.int n t from r)
  exact .cons _ _ (oN t)
theorem nC:∀{ns:List Int} {us:List Value},IntsAre us ns->Vals (ns.map V.int) us
 | _,_,.nil=>.nil
 | _,_,.cons _ _ t=>.cons ⟨_,rfl⟩ (nC t)
section
variable {K:Fg} {W:XW} {U:St} {H:Hp} {Q:VK} {fa:F1} {fl:FL}
theorem AftL.newSc {O:List Addr} {Gs Fs1:List (List Addr)} {Γ1:Ev} {ps:List PV} {us:List V} {H1:Hp} {l:Addr} {vs:List V} {ds:List KB} (A:AftL K He O Fs H U Γ1 ps us H1 Gs Fs1) (nd:O.Nodup) (hl:H1 l=none) (hv:vs.length=ds.length) (hs:∀(i:Nat) v d,vs[i]?=some v->ds[i]?=some d->Sc v d) :
  Aft K He O Fs H U Γ1 ⟨.lst .leaf,.list ds⟩ (.ref l) (upd H1 l (.lst vs)) [l] Fs1:=by
 refine ⟨A.same.trans (cb hl),A.env.dropL.hide (cb hl) (by simp) (by simpa using hl) (fun a ha=>by rw [List.mem_singleton.mp ha,bL];exact Option.some_ne_none _),fun a ha=>?_,?_⟩
 ·rcases Kq ha with z | z
  ·rw [List.mem_singleton.mp z];exact .inr (A.same.free hl)
  ·exact A.new a (Ko _ z)
 ·exact Own.mkLeaves bL hv fun j u d e1 e2=>(hs j u d e1 e2).rep
def intsOf:List KB->Option (List Int)
 | []=>some []
 | .int i::r=>(intsOf r).map (i :: ·)
 | _=>none
theorem i6:∀{ds:List KB} {ns:List Int},intsOf ds=some ns->ds=ns.map .int
 | [],ns,h=>by cases h;rfl
 | .int i::r,ns,h=>by
  unfold intsOf at h
  cases e:intsOf r with
  | none=>rw [e] at h;cases h
  | some ms=>rw [e] at h;cases h;rw [i6 e];rfl
 | .none::_,_,h=>by cases h
 | .bool _::_,_,h=>by cases h
 | .str _::_,_,h=>by cases h
 | .list _::_,_,h=>by cases h
 | .tuple _::_,_,h=>by cases h
 | .dict _::_,_,h=>by cases h
def sortArg:List KB->Option (List Int)
 | [.list ds]=>intsOf ds
 | _=>none
theorem mz {ds:List KB} {ns:List Int} (h:sortArg ds=some ns):ds=[.list (ns.map .int)]:=by
 unfold sortArg at h;split at h
 ·rw [i6 h]
 ·cases h
end
theorem Inv.turnedL {H:Hp} {s:Shared} (I:L2.Inv X pins U H s) (k:∀b o,b∉fp->s.heap.get? b=some o->h'.get? b=some o) (hf:∀b∈fp,iG X pins H b):L2.Inv X pins U H { s with heap:=h',toks:=t' }:=by
 have nit:∀b u,H b=some u->b∉fp:=fun b u e z=>by have:=(hf b z).1;rw [e] at this;cases this
 have hL:X.env.locals∉fp:=fun z=>(hf _ z).2.1 rfl
 refine I.step (g':=s.gens) (d':=s.drawn) (ch:=fp) (fun b hb=>?_) (fun b o _ _ hc e _=>k b o hc e) (fun b o _ _ hc e _=>⟨o.slots,k b o hc e⟩) (fun _ _ _ _ n=>n)
  (fun b o hc e=>⟨o,k b o hc e⟩) (fun _ _ e=>e) (fun _ _ _ e=>e) (fun b ps e=>⟨#[],by rw [e];simp⟩) (fun m hm=>?_) (fun b u e=>?_) I.bare
 ·obtain ⟨f0,f1,f2,f3,f4,f5⟩:=hf b hb
  exact ⟨f3,f1,f4,f5⟩
 ·obtain ⟨o,es,ep,ho,r⟩:=hm
  exact ⟨o,es,ep,k _ o hL ho,r⟩
 ·refine (I.hok b u e).stay (fun c v hc q=>k c v ?_ q) (fun _ q=>q) fun _ _ q=>q
  rcases hc with z | z
  ·rw [z];exact nit b u e
  ·exact nit c _ z
theorem Inv.turnedT {H:Hp} {s:Shared} {T:Addr} {xs:List V} (I:L2.Inv X pins U H s) (k:∀b o,b∉fp->s.heap.get? b=some o->h'.get? b=some o) (hf:∀b∈fp,iG X pins H b) (hT:s.heap.objs.size<=T)
  (new:ObjOk X.prog X.w (upd H T (.tup xs)) h' T (.tup xs)):L2.Inv X pins U (upd H T (.tup xs)) { s with heap:=h',toks:=t' }:=by
 have hTn:H T=none:=I.hok.fresh hT
 have nit:∀b u,H b=some u->b∉fp:=fun b u e z=>by have:=(hf b z).1;rw [e] at this;cases this
 have up:∀b u,H b=some u->upd H T (.tup xs) b=some u:=fun b u e=>by rw [bw (u6 e hTn)];exact e
 have hL:X.env.locals∉fp:=fun z=>(hf _ z).2.1 rfl
 refine I.step (g':=s.gens) (d':=s.drawn) (ch:=fp) (fun b hb=>?_) (fun b o _ _ hc e _=>k b o hc e) (fun b o _ _ hc e _=>⟨o.slots,k b o hc e⟩) (fun b o _ e n=>by rw [bw (Nat.ne_of_lt (Nat.lt_of_lt_of_le (Heap.lt_size e) hT))];exact n)
  (fun b o hc e=>⟨o,k b o hc e⟩) (fun b _ e=>up b _ e) (fun b _ _ e=>up b _ e) (fun b ps e=>⟨#[],by rw [up b _ e];simp⟩) (fun m hm=>?_) (fun b u e=>?_) I.bare
 ·obtain ⟨f0,f1,f2,f3,f4,f5⟩:=hf b hb
  exact ⟨f3,f1,f4,f5⟩
 ·obtain ⟨o,es,ep,ho,r⟩:=hm
  exact ⟨o,es,ep,k _ o hL ho,r⟩
 ·by_cases hb:b=T
  ·subst hb
   rw [bL] at e
   cases e;exact new
  ·rw [bw hb] at e
   refine (I.hok b u e).stay (fun c v hc q=>k c v ?_ q) (fun c q=>up c _ q) fun c _ q=>up c _ q
   rcases hc with z | z
   ·rw [z];exact nit b u e
   ·exact nit c _ z
def BQ (K:Fg) (a:Addr):It:=
 ⟨fun i H=>∃xs x,SqL K H a xs/\xs[i]?=some x,fun i H x H'=>∃T v,x=.ref T/\H T=none/\H'=upd H T (.tup [.int i,v])/\∀xs,SqL K H a xs->xs[i]?=some v,fun i H=>∃xs,SqL K H a xs/\xs.length<=i⟩
theorem ph {P:Program} {w:World} {K:Fg} {k:Nat} (a e it:Addr) (hei:e≠it) (hae:a≠e) (hai:a≠it) :
  qG P w K (.Tuple elts k pos) (BQ K a) [e,it] e (fun i h=>(∃old,IsEnum h e it i old)/\h.IsListIter it a i) where
 mem:=by simp
 obj:=fun i h st b hb=>by
  obtain ⟨⟨old,he⟩,o,e1,c,d⟩:=st;simp only [mem_cons,not_mem_nil,or_false] at hb
  rcases hb with rfl | rfl
  ·exact ⟨_,he,fun v z=>by
    have z':Data.fields _=Data.cell v:=z
    cases z'⟩
  ·exact ⟨o,e1,fun v z=>by rw [d] at z;cases z⟩
 keep:=fun i h h' st kk=>by
  obtain ⟨⟨old,he⟩,hit⟩:=st;exact ⟨⟨old,kk e (by simp) _ he⟩,hit.at fun o q=>kk it (by simp) o q⟩
 item:=by
  intro X hP hw hK hc i pins s U H E I hf st hg;subst hP hw hK;obtain ⟨xs,x,hq,hx⟩:=hg;obtain ⟨its,rv,p,hz⟩:=I.list hq;obtain ⟨u,hu,ru⟩:=rv.get hx;have W:=WalksT.enumerate (prog:=X.prog) (w:=X.w) (A:=X.A) (I.ok.hd hc) e it a hei hae hai its.toArray
  have hil:i<its.toArray.size:=by
   have:=(Kw hu).1
   simpa using this
  refine W.item i s _ _ hil ⟨st.1,st.2,p.isList⟩ fun T vals h' tk hv hT hTT hMid kk=>?_
  obtain ⟨t,y,hy,rfl⟩:=hv;have ey:y=u:=by
   rw [getElem?_toArray,hu] at hy;exact (Option.some.inj hy).symm
  subst ey;refine ⟨.ref T,rfl,W.go elts k pos i T _ _ _ hMid fun h2 st2 kk2=>?_⟩
  have hTn:H T=none:=I.hok.fresh hT
  have hTw:T∉[e,it]:=W.apart i T _ hMid
  have kAll:∀b o,b∉[e,it]->s.heap.get? b=some o->h2.get? b=some o:=fun b o hb q=>kk2 b o hb (kk b o hb q)
  have I1:L2.Inv X pins U H { s with heap:=h2,toks:=tk }:=Inv.turnedL I kAll hf
  have tT:h2.IsTuple T #[.int i t,y]:=by
   obtain ⟨o,q1,q2⟩:=hTT;exact ⟨o,kk2 T o hTw q1,q2⟩
  have hvs:Vals [.int (i:Int),x] [.int i t,y]:=.cons (show RelV (.int (i:Int)) (.int i t) from ⟨t,rfl⟩) (.cons ru .nil)
  have I3:L2.Inv X pins U (upd H T (.tup [.int i,x])) { s with heap:=h2,toks:=tk }:=Inv.turnedT (t':=tk) I kAll hf hT ⟨by show 2<=sizeLine;decide,[.int i t,y],hvs,(show IsTup h2 T _ from tT)⟩
  refine ⟨.ref T,upd H T (.tup [.int i,x]),I3,rfl,⟨T,x,rfl,hTn,rfl,fun ys hy=>by rw [I.list_inj hy hq];exact hx⟩,⟨st2.1,st2.2.1⟩,fun b hb=>?_⟩
  have hbT:b≠T:=fun z=>by rw [z] at hb;exact hTw hb
  rw [bw hbT];exact (hf b hb).1
 done:=by
  intro X hP hw hK hc i pins s U H E I hf st hg;subst hP hw hK;obtain ⟨xs,hq,hx⟩:=hg;obtain ⟨its,rv,p,hz⟩:=I.list hq;have hl:=rv.length
  obtain ⟨⟨old,he⟩,hit⟩:=st;refine wpAny_pyNext_enum_end (I.ok.hd hc) he hit p.isList (Array.getElem?_eq_none (by simp;omega)) fun h' hk=>⟨rfl,Inv.turnedL (t':=s.toks) I (fun b o hb q=>hk b o (fun z=>hb (by simp [z])) q) hf⟩
 self:=fun _ _ _ _ _ st h=>by
  obtain ⟨⟨old,he⟩,hit⟩:=st;exact wpAny_pyIter_enum he h
def tZ (K:Fg) (ta:TA):TI:=fun U H R=>ta U H fun vs H1=>∃a,vs=[.ref a]/\(∃xs,SqL K H1 a xs)/\R (BQ K a) H1
theorem oh {kt:Nat} {ptg:Pos} {l:Expr} {ta:TA} {p:Pos} (hg:Gl X "enumerate") (hm:X.mg "enumerate"=none) (ha:PA X [l] ta) (hs:starEach [l] X.env=[(false,eval l X.env)]) :
  PI X (.Tuple elts kt ptg) (.Call (.Name "enumerate" p) [l] [] pos) (tZ X.K ta):=by
 intro pins s U H R I h;refine Call_ (yK I hg hm boot_enumerate (PyProof.Rows.callWith_type1 (bg (ha pos pins s U H _ I h) fun us s1 ⟨vs,H1,I1,r1,q1⟩=>?_) hs rfl))
 obtain ⟨a,e,⟨xs,hq⟩,q⟩:=q1;subst e;obtain ⟨u,rfl,ru⟩:=r1.one
 cases ru;obtain ⟨its,rv,pl,hz⟩:=I1.list hq;refine call_enumerate_list pl.isList fun h' he hit hsz hk=>?_
 have ha1:a<s1.heap.objs.size:=by
  obtain ⟨o,q1,_⟩:=pl.isList;exact Heap.lt_size q1
 refine wpAny_pyIter_enum (s:={ s1 with heap:=h' }) he ?_
 have I2:L2.Inv X pins U H1 { s1 with heap:=h' }:=I1.kept (t':=s1.toks) hk
 refine ⟨s1.heap.objs.size+1,[s1.heap.objs.size+1,s1.heap.objs.size],_,BQ X.K a,H1,rfl,I2,ph a _ _ (Nat.succ_ne_self _) (Nat.ne_of_lt (Nat.lt_succ_of_lt ha1)) (Nat.ne_of_lt ha1),⟨⟨_,he⟩,hit⟩,fun b hb=>?_,q⟩
 simp only [mem_cons,not_mem_nil,or_false] at hb
 have hb2:s1.heap.objs.size<=b:=by
  rcases hb with z | z
  ·rw [z];exact Nat.le_succ _
  ·rw [z];exact KA _
 have f:=I1.fpOk hb2 (I1.hok.fresh hb2)
 exact f
def qR (i j:Nat) (fc:FB) (fe:F1) (s:Sh):Nat->List KB->Ev->List KB->Out (List KB)
 | _,[],Γ,acc=>.ok acc Γ
 | k,d::r,Γ,acc=>match fc ((Γ.set i (KD (.int (k:Nat)))).set j (KD d)) with
  | .ok true Γ1=>(match fe Γ1 with
   | .ok p Γ2=>if T.coer s p&&decide (acc.length<sizeLine) then qR i j fc fe s (k+1) r ((Γ2.set i none).set j none) (acc++[p.d]) else .no
   | _=>.no)
  | .ok false Γ1=>if acc.length<sizeLine then qR i j fc fe s (k+1) r ((Γ1.set i none).set j none) acc else .no
  | _=>.no
def uW:Option (Option PV)->Bool
 | some none=>true
 | _=>false
def yQ (s:Sh) (i j:Nat) (fa:F1) (fc:FB) (fe:F1):F1:=fun Γ=>(bA fa Γ).bind fun t Γ1=>if uW Γ1[i]?&&uW Γ1[j]?&&!s.isView then (match qR i j fc fe s 0 t.ds Γ1 [] with
 | .ok ds Γ2=>.ok ⟨.lst s,.list ds⟩ Γ2
 | _=>.no) else .no
theorem gX {o:Option (Option PV)} (h:uW o=true):o=some none:=by
 unfold uW at h;split at h
 ·rfl
 ·cases h
section
variable {K:Fg} {He H H1 H2:Hp} {O G:List Addr} {Fs Fs1 Fs2:List (List Addr)} {U:St} {Γ Γ1 Γ2:Ev}
theorem rJ {i j m:Nat} {p:PV} (h:((Γ.set i none).set j none)[m]?=some (some p)):m≠i/\m≠j/\Γ[m]?=some (some p):=by
 obtain ⟨h1,h2⟩:=FC h;obtain ⟨h3,h4⟩:=FC h2;exact ⟨h3,h1,h4⟩
theorem EnvOk.forget2 {i j:Nat} {x y:Option V} (E:EnvOk K He O Fs H (((aD [i,j] U).set i x).set j y) Γ):EnvOk K He O Fs H (aD [i,j] U) ((Γ.set i none).set j none):=by
 refine ⟨by have:=E.len1;simpa using this,by have:=E.len2;simpa using this,E.same,E.nd,E.inH,E.fresh,fun m q hq=>?_⟩
 obtain ⟨h1,h2,h3⟩:=rJ hq;obtain ⟨w1,v',F',e1,e2,e3⟩:=E.slot m q h3;rw [getElem?_set_ne (Ne.symm h2),getElem?_set_ne (Ne.symm h1)] at e1;exact ⟨w1,v',F',e1,e2,e3⟩
theorem EnvOk.blank2 {i j:Nat} (E:EnvOk K He O Fs H U Γ) (hi:Γ[i]?=some none) (hj:Γ[j]?=some none):EnvOk K He O Fs H (aD [i,j] U) Γ:=by
 refine ⟨by rw [xU];exact E.len1,E.len2,E.same,E.nd,E.inH,E.fresh,fun m q hq=>?_⟩
 obtain ⟨w1,v',F',e1,e2,e3⟩:=E.slot m q hq;refine ⟨w1,v',F',?_,e2,e3⟩
 rw [G4 (fun z=>?_)]
 ·exact e1
 ·simp only [mem_cons,not_mem_nil,or_false] at z
  rcases z with z | z
  ·rw [z,hi] at hq;cases hq
  ·rw [z,hj] at hq;cases hq
theorem EnvOk.unblank2 {i j:Nat} (E:EnvOk K He O Fs H (aD [i,j] U) Γ):EnvOk K He O Fs H U Γ:=by
 refine ⟨by have:=E.len1;rw [xU] at this;exact this,E.len2,E.same,E.nd,E.inH,E.fresh,fun m q hq=>?_⟩
 obtain ⟨w1,v',F',e1,e2,e3⟩:=E.slot m q hq;exact ⟨w1,v',F',(Cc e1).2,e2,e3⟩
theorem lC {i:Nat} {a:Addr} (hi:i<Fs.length) (h:a∈(Fs.set i []).flatten):a∈Fs.flatten:=by
 have hF:Fs[i]?=some (Fs[i]'hi):=Ks _
 have:=(mm (G:=[]) hF).mem_iff.mp (Ko _ h)
 simpa using this
structure Eu (K:Fg) (He:Hp) (O:List Addr) (Fs1:List (List Addr)) (H1:Hp) (U:St) (i j:Nat) (s:Sh) (A0:Addr) (n:Nat) (ys:List V) (H:Hp) (Γk:Ev) (Fk Gs:List (List Addr)) (acc:List KB):Prop where
 env:EnvOk K He (A0::Gs.flatten++O) Fk H (aD [i,j] U) Γk
 same:Same H1 H
 at_:H A0=some (.lst ys)
 new:∀a∈Gs.flatten++Fk.flatten,a∈Fs1.flatten\/H1 a=none
 l1:ys.length=acc.length
 l2:Gs.length=acc.length
 own:∀(m:Nat) v d G,ys[m]?=some v->acc[m]?=some d->Gs[m]?=some G->Own K (A0::Gs.flatten++O++Fk.flatten) H s G v d
 len:Γk.length=n
end
section
variable {K:Fg} {W:XW} {U:St} {H:Hp} {Q:VK} {fa fe:F1} {fc:FB} {s:Sh} {i j:Nat}
theorem sq (hij:i≠j) (h:tE K W (yQ s i j fa fc fe) U H Q):bJ [i,j] (tZ K (tA K W (aa fa af))) (wX K 2 (g5 (av i) (g5 (av j) w4))) (tT K W0 fc) (tE K W0 fe) U H Q:=by
 obtain ⟨He,O,Fs,Γ,E,h⟩:=h;refine GW ⟨He,O,Fs,Γ,E,?_⟩
 unfold yQ bA at h
 cases e:fa Γ with
 | er c Γ1=>rw [e] at h;exact h
 | no=>rw [e] at h;exact h
 | ok p Γ1=>
  rw [e] at h;intro v H1 G Fs1 A;obtain ⟨sp,d⟩:=p
  cases d with
  | list ds=>
   have h:Wants K W He O Fs H U Q ((if d9 ⟨sp,.list ds⟩ ds then Out.ok (⟨ds,!sp.isView⟩:Jc) Γ1 else .no).bind fun t Γ1=>if uW Γ1[i]?&&uW Γ1[j]?&&!s.isView then (match qR i j fc fe s 0 t.ds Γ1 [] with | .ok ds Γ2=>.ok ⟨.lst s,.list ds⟩ Γ2 | _=>.no) else .no):=h
   cases hc:d9 ⟨sp,.list ds⟩ ds with
   | false=>rw [hc] at h;exact h.elim
   | true=>
    rw [hc] at h;have h:Wants K W He O Fs H U Q (if uW Γ1[i]?&&uW Γ1[j]?&&!s.isView then (match qR i j fc fe s 0 ds Γ1 [] with | .ok ds Γ2=>.ok ⟨.lst s,.list ds⟩ Γ2 | _=>.no) else .no):=h
    by_cases hn:(uW Γ1[i]?&&uW Γ1[j]?&&!s.isView)=true
    case neg=>rw [if_neg hn] at h;exact h.elim
    rw [if_pos hn] at h;simp only [Bool.and_eq_true,Bool.not_eq_true'] at hn
    obtain ⟨⟨hni,hnj⟩,hsv⟩:=hn;have hni:=gX hni
    have hnj:=gX hnj
    cases eg:qR i j fc fe s 0 ds Γ1 [] with
    | er c Γ'=>rw [eg] at h;exact h.elim
    | no=>rw [eg] at h;exact h.elim
    | ok ds' Γ2=>
     rw [eg] at h;have h:Wants K W He O Fs H U Q (.ok ⟨.lst s,.list ds'⟩ Γ2):=h
     obtain ⟨p,vs,rfl,hq,hst,hr⟩:=A.own.items (O':=O++Fs1.flatten) hc js A.disj
     have E1:=A.go
     have hlen:vs.length=ds.length:=hr.1
     have hi:i<Γ1.length:=(Kw hni).1
     have hj:j<Γ1.length:=(Kw hnj).1
     refine ⟨p,rfl,⟨vs,hq⟩,fun A0 hD=>?_⟩
     have hHeD:He A0=none:=E1.same.free hD
     have E0':EnvOk K He (A0::([]:List (List Addr)).flatten++O) Fs1 (upd H1 A0 (.lst [])) (aD [i,j] U) Γ1:=
      (E1.blank2 hni hnj).hide (G:=[A0]) (cb hD) (by simp) (fun a ha=>by simp at ha;rw [ha];exact hD) (fun a ha=>by simp at ha;rw [ha,bL];exact Option.some_ne_none _)
     refine ⟨fun k m ys H'=>m=vs.length-k/\k<=vs.length/\∃Γk Fk Gs acc,Eu K He O Fs1 H1 U i j s A0 Γ1.length ys H' Γk Fk Gs acc/\qR i j fc fe s k (ds.drop k) Γk acc=.ok ds' Γ2,⟨vs.length,by simp,Nat.zero_le _,Γ1,Fs1,[],[],⟨E0',cb hD,bL,fun a ha=>.inl (by simpa using ha),rfl,rfl,fun m v d G h1=>by simp at h1,rfl⟩,by simpa using eg⟩,?_⟩
     rintro k m ys H' ⟨rfl,hk,Γk,Fk,Gs,acc,g,eg'⟩
     refine ⟨g.at_,?_⟩
     have hPk:SqL K H' p vs:=g.same.seq hq
     by_cases hlt:k<vs.length
     case neg=>
      left
      have:ds.drop k=[]:=drop_eq_nil_of_le (by omega)
      rw [this] at eg';have eg'':(Out.ok acc Γk:Out (List KB))=.ok ds' Γ2:=eg'
      injection eg'' with e1 e2
      subst e1;subst e2;refine ⟨⟨vs,hPk,by omega⟩,?_⟩
      obtain ⟨n1',_,n3'⟩:=Kv g.env.ndO;refine h (.ref A0) H' (A0::Gs.flatten) Fk ⟨A.same.trans g.same,g.env.unblank2,fun a ha=>?_,?_⟩
      ·have up:a∈Fs1.flatten\/H1 a=none->a∈Fs.flatten\/H a=none:=fun z=>z.elim (fun y=>A.newF a y) fun y=>.inr (A.same.free y)
       rcases Kq ha with z | z
       ·rcases Kr z with z | z
        ·exact up (.inr (by rw [z];exact hD))
        ·exact up (g.new a (Kp _ z))
       ·exact up (g.new a (Ko _ z))
      ·exact .lst hsv g.at_ g.l1 g.l2 n1' fun m v d G h1 h2 h3=>g.own m v d G h1 h2 h3
     case pos=>
      right
      have hv:vs[k]?=some vs[k]:=Ks hlt
      have hkd:k<ds.length:=by omega
      have hd:ds[k]?=some ds[k]:=Ks hkd
      have hdr:ds.drop k=ds[k]::ds.drop (k+1):=drop_eq_getElem_cons hkd
      rw [hdr] at eg';generalize hdk:ds[k]=d at hd eg'
      generalize hvk:vs[k]=v at hv
      simp only [qR] at eg'
      have hik:i<Γk.length:=by rw [g.len];exact hi
      have hjk:j<Γk.length:=by rw [g.len];exact hj
      have hsl:ys.length<sizeLine:=by
       rw [g.l1]
       cases ec:fc ((Γk.set i (KD (.int (k:Nat)))).set j (KD d)) with
       | no=>rw [ec] at eg';cases eg'
       | er c Γ'=>rw [ec] at eg';cases eg'
       | ok b Γa=>
        rw [ec] at eg'
        cases b with
        | false=>
         dsimp only at eg'
         split at eg'
         ·assumption
         ·cases eg'
        | true=>
         dsimp only at eg'
         split at eg'
         ·split at eg'
          ·rename_i z
           simp only [Bool.and_eq_true,decide_eq_true_eq] at z
           exact z.2
          ·cases eg'
         ·cases eg'
      refine ⟨⟨vs,v,hPk,hv⟩,hsl,?_⟩
      rintro x Hx ⟨T,v',rfl,hTn,rfl,hv'⟩
      have ev:v'=v:=Option.some.inj ((hv' vs hPk).symm.trans hv)
      subst ev;refine ⟨T,[.int k,v'],rfl,.of bL,rfl,.int k,[v'],rfl,v',[],rfl,rfl,?_⟩
      have sT:Same H' (upd H' T (.tup [.int k,v'])):=cb hTn
      have Eg:=g.env.grow sT
      have rep:Rep K (aC (upd H' T (.tup [.int k,v'])) (A0::Gs.flatten++O++Fk.flatten)) v' d:=(hr.2 k v' d hv hd).mono (dW (g.same.trans sT) fun a ha=>by
       rcases Kq ha with z | z
       ·rcases Kq z with z | z
        ·rcases Kr z with z | z
         ·rw [z];exact .inr hD
         ·exact (g.new a (Kp _ z)).elim (fun y=>.inl (Ko _ y)) .inr
        ·exact .inl (Kp _ z)
       ·exact (g.new a (Ko _ z)).elim (fun y=>.inl (Ko _ y)) .inr)
      have lF:Fk.length=Γk.length:=g.env.len2
      have Ep:=EnvOk.put (G:=[]) (i:=i) (p:=⟨.leaf,.int (k:Nat)⟩) (v:=.int k) Eg (.leaf (.int _)) rfl (fun a ha=>by simp at ha) hik
      have fk:∀a∈(Fk.set i []).flatten,a∈Fk.flatten:=fun a ha=>lC (by omega) ha
      have Eq:=EnvOk.put (G:=[]) (i:=j) (p:=⟨.leaf,d⟩) (v:=v') Ep (.leaf (rep.mono (dW (Same.refl _) fun a ha=>.inl (by
       rcases Kq ha with z | z
       ·exact Kp _ z
       ·exact Ko _ (fk a z))))) rfl (fun a ha=>by simp at ha) (by rw [length_set];exact hjk)
      have fkk:∀a∈((Fk.set i []).set j []).flatten,a∈Fk.flatten:=fun a ha=>fk a (lC (by rw [length_set];omega) ha)
      refine ⟨⟨by rw [length_set,length_set],fun m u hm=>?_⟩,?_⟩
      ·have:=(Cc hm).1
       simp only [mem_cons,not_mem_nil,or_false,not_or] at this
       rw [getElem?_set_ne (Ne.symm this.2),getElem?_set_ne (Ne.symm this.1)];exact hm
      refine ⟨He,_,_,_,Eq,?_⟩
      cases ec:fc ((Γk.set i (KD (.int (k:Nat)))).set j (KD d)) with
      | no=>rw [ec] at eg';cases eg'
      | er c Γ'=>rw [ec] at eg';cases eg'
      | ok b Γa=>
       rw [ec] at eg';intro H3 Fs3 s3' E3 n3
       have s3:Same H' H3:=sT.trans s3'
       have lena:Γa.length=Γ1.length:=by
        have:=E3.len1
        rw [length_set,length_set,xU,E1.len1] at this;exact this.symm
       have n3':∀a∈Fs3.flatten,a∈Fs1.flatten\/H1 a=none:=fun a ha=>(n3 a ha).elim (fun z=>g.new a (Ko _ (fkk a z))) fun z=>.inr (g.same.free (sT.free z))
       have n3k:∀a∈Fs3.flatten,a∈Fk.flatten\/H' a=none:=fun a ha=>(n3 a ha).elim (fun z=>.inl (fkk a z)) fun z=>.inr (sT.free z)
       cases b with
       | false=>
        dsimp only at eg'
        split at eg'
        case isFalse=>cases eg'
        refine cn ⟨vs.length-(k+1),by omega,rfl,hlt,(Γa.set i none).set j none,Fs3,Gs,acc,⟨E3.forget2,g.same.trans s3,s3 _ _ g.at_,fun a ha=>?_,g.l1,g.l2,fun m v d G h1 h2 h3=>(g.own m v d G h1 h2 h3).mono s3 fun a ha=>?_,by rw [length_set,length_set];exact lena⟩,eg'⟩
        ·rcases Kq ha with z | z
         ·exact g.new a (Kp _ z)
         ·exact n3' a z
        ·rcases Kq ha with z | z
         ·exact .inl (Kp _ z)
         ·exact (n3k a z).elim (fun y=>.inl (Ko _ y)) .inr
       | true=>
        refine ck ⟨He,_,_,_,E3,?_⟩
        dsimp only at eg'
        cases ee:fe Γa with
        | no=>rw [ee] at eg';cases eg'
        | er c Γ'=>rw [ee] at eg';cases eg'
        | ok p Γb=>
         rw [ee] at eg';dsimp only at eg'
         split at eg'
         case isFalse=>cases eg'
         rename_i hco;simp only [Bool.and_eq_true,decide_eq_true_eq] at hco
         obtain ⟨hco,_⟩:=hco;intro u H4 G Fs4 A4;have lenb:Γb.length=Γ1.length:=by
          have:=A4.env.len1
          rw [length_set,length_set,xU,E1.len1] at this;exact this.symm
         have at4:H4 A0=some (.lst ys):=A4.same _ _ (s3 _ _ g.at_)
         have s14:Same H1 H4:=(g.same.trans s3).trans A4.same
         have new4:∀a∈G++Fs4.flatten,a∈Fs1.flatten\/H1 a=none:=fun a ha=>(A4.new a ha).elim (n3' a) fun z=>.inr ((g.same.trans s3).free z)
         have hG':∀a∈aF s G,a∈G:=fun a ha=>Fl ha
         obtain ⟨k1,k2,k3⟩:=Kv A4.env.ndO;have ndk:(aF s G).Nodup:=by
          cases s<;>first | exact nodup_nil | exact k1
         have pmO:(A0::(Gs++[aF s G]).flatten++O).Perm (aF s G++(A0::Gs.flatten++O)):=by
          rw [vo];show (A0::((Gs.flatten++aF s G)++O)).Perm _
          refine List.Perm.trans ?_ List.perm_middle.symm
          refine List.Perm.cons _ ?_
          rw [append_assoc];exact kG _ _ _
         have E5:EnvOk K He (aF s G++(A0::Gs.flatten++O)) Fs4 H4 (((aD [i,j] U).set i (some (.int k))).set j (some v')) Γb:=A4.env.drop (fun a ha=>by
          rcases Kq ha with z | z
          ·exact Kp _ (hG' a z)
          ·exact Ko _ z) (List.nodup_append.mpr ⟨ndk,k2,fun a ha b hb=>k3 a (hG' a ha) b hb⟩)
         have E6:=(E5.perm pmO).forget2
         have hDin:A0∈A0::(Gs++[aF s G]).flatten++O:=mem_cons_self
         have E7:=E6.mutO (o:=.lst (ys++[u])) hDin at4 hHeD
         have subH:∀a∈A0::(Gs++[aF s G]).flatten++O++Fs4.flatten,a∈G++(A0::Gs.flatten++O)++Fs4.flatten:=fun a ha=>by
          rcases Kq ha with z | z
          ·rcases Kq (pmO.mem_iff.mp z) with y | y
           ·exact Kp _ (Kp _ (hG' a y))
           ·exact Kp _ (Ko _ y)
          ·exact Ko _ z
         have Dnot:∀{m:Nat} {Gj:List Addr},Gs[m]?=some Gj->A0∉Gj:=fun {m Gj} hj z=>by
          have nd:=g.env.ndO
          exact (List.nodup_cons.mp nd).1 (Kp _ (ia hj z))
         refine ⟨at4,vs.length-(k+1),by omega,rfl,hlt,(Γb.set i none).set j none,Fs4,Gs++[aF s G],acc++[p.d],⟨E7,fun b o hb=>?_,bL,fun a ha=>?_,by simp [g.l1],by simp [g.l2],fun m w d' G' h1 h2 h3=>?_,by rw [length_set,length_set];exact lenb⟩,eg'⟩
         ·rw [bw (u6 hb hD)]
          exact s14 b o hb
         ·rcases Kq ha with z | z
          ·rw [vo] at z
           rcases Kq z with z | z
           ·exact g.new a (Kp _ z)
           ·exact new4 a (Kp _ (hG' a z))
          ·exact new4 a (Ko _ z)
         ·by_cases hm:m<ys.length
          ·rw [getElem?_append_left hm] at h1
           rw [getElem?_append_left (by rw [<-g.l1];exact hm)] at h2
           rw [getElem?_append_left (by rw [g.l2,<-g.l1];exact hm)] at h3
           have o1:=g.own m w d' G' h1 h2 h3
           have o2:=o1.mono (O':=A0::(Gs++[aF s G]).flatten++O++Fs4.flatten) (s3.trans A4.same) fun a ha=>by
            have up:a∈G++Fs4.flatten->a∈A0::Gs.flatten++O++Fk.flatten\/H' a=none:=fun z=>(A4.new a z).elim (fun y=>(n3k a y).elim (fun y=>.inl (Ko _ y)) .inr) fun y=>.inr (s3.free y)
            rcases Kq (subH a ha) with z | z
            ·rcases Kq z with z | z
             ·exact up (Kp _ z)
             ·exact .inl (Kp _ z)
            ·exact up (Ko _ z)
           exact o2.mut hsv (Kp _ hDin) (Dnot h3) at4
          ·have hm':m=ys.length:=by
            have:=(Kw h1).1
            rw [length_append,length_singleton] at this;omega
           subst hm'
           rw [getElem?_append_right (KA _),Nat.sub_self] at h1;rw [getElem?_append_right (by rw [g.l1];exact KA _),show ys.length-acc.length=0 by rw [g.l1];exact Nat.sub_self _] at h2
           rw [getElem?_append_right (by rw [g.l2,g.l1];exact KA _),show ys.length-Gs.length=0 by rw [g.l2,g.l1];exact Nat.sub_self _] at h3
           cases h1
           cases h2
           cases h3;have o3:=A4.own.coer (s:=s) (O':=A0::(Gs++[aF s G]).flatten++O++Fs4.flatten) hco subH fun a ha hO=>by
            cases s with
            | leaf=>
             exfalso
             have hO':a∈(A0::Gs.flatten++O)++Fs4.flatten:=by
              rw [vo] at hO;simpa [aF] using hO
             rcases Kq hO' with z | z
             ·exact k3 a ha a z rfl
             ·have nd:=A4.env.nd
              exact (Kv nd).2.2 a (Kp _ ha) a z rfl
            | view=>cases hsv
            | lst s=>exact ha
            | tup ss=>exact ha
           refine o3.mut hsv (Kp _ hDin) (fun z=>?_) at4
           exact k3 A0 (hG' A0 z) A0 mem_cons_self rfl
  | _=>exact h.elim
end
def vi (N:List Str) (is:List Nat) (cs:List Nat) (sc:Scope):Bool:=
 decide (sc.kind=.function)&&(sc.names.all fun p=>!decide (p.2=.free)||cs.any fun j=>decide (N[j]?=some p.1)) &&
 ((List.range N.length).all fun j=>is.contains j||(sc.names.all fun p=>!decide (some p.1=N[j]?)||(!decide (p.2=.local)&&!decide (p.2=.cell)))) &&
 (sc.names.all fun p=>!decide (p.2=.local)||decide (sc.names.lookup p.1=some .local)) &&
 (sc.names.all fun p=>!decide (p.2=.free)||sc.names.all fun q=>!decide (q.1=p.1)||!decide (q.2=.cell))
theorem yY {N gl:List Str} {vs cs ls lo gs is:List Nat} {scope:Scope} (S:Cp X N gl vs cs ls lo gs) (h:vi N is cs scope=true):cZ X.N is X.env.scope scope:=by
 unfold vi at h;simp only [Bool.and_eq_true,decide_eq_true_eq,all_eq_true,Bool.or_eq_true,Bool.not_eq_true',decide_eq_false_iff_not,any_eq_true,mem_range] at h
 obtain ⟨⟨⟨⟨h0,h1⟩,h2⟩,h3⟩,h4⟩:=h;refine ⟨h0,fun n hn=>?_,fun j x e hj=>?_,fun x hx e=>?_,fun n hn hc=>?_⟩
 ·rcases h1 _ hn with z | ⟨j,hj,e⟩
  ·exact absurd rfl z
  ·exact S.cel j n e (by simpa using hj)
 ·rw [S.hN] at e
  rcases h2 j (Kw e).1 with z | z
  ·simpa using z
  ·exfalso
   rcases hj with y | y
   ·rcases z _ y with w | w
    ·exact w e.symm
    ·exact w.1 rfl
   ·rcases z _ y with w | w
    ·exact w e.symm
    ·exact w.2 rfl
 ·rcases h3 x hx with z | z
  ·exact absurd e z
  ·exact z
 ·rcases h4 _ hn with z | z
  ·exact z rfl
  ·rcases z _ hc with w | w
   ·exact w rfl
   ·exact w rfl
end T
namespace TQ
open PySem PySem.Spec L2 T
open PyProof.Rows hiding St
section
variable {X:Cx} {N gl:List Str} {vs cs ls lo gs:List Nat} {W:XW} {a b c e:Expr} {es:List Expr} {pos p:Pos} {fa fb fc:F1} {fl:FL} {ga gb:FB} {g1 g2 g:FS}
theorem nB {st:Stmt}:Q (PS X st (tS X.K W HY)):=⟨fun pins s U H D I h=>by
 obtain ⟨He,O,Fs,Γ,E,h⟩:=h;exact h.elim⟩
theorem Fn (ha:Q (PE X e (tE X.K W fa))) (hs:swapsWith e none pos.line X.env=pure false):Q (PS X (.Expr e pos) (tS X.K W (dX fa))):=⟨have ha:=ha.p;d7 (pb ha hs) fun _ _ _=>vU⟩
theorem mr (n:Nat) {body:List Stmt} (hp:PassesOwn (model X.prog X.w) X.A X.env X.xe) (hc:Q (PT X c (tT X.K W ga))) (hb:Q (PSs X body (tS X.K W g))):Q (PS X (.While c body [] pos) (tS X.K W (B1 n ga g))):=⟨have hc:=hc.p;have hb:=hb.p;d7 (E8 hp hc hb) fun _ _ _=>r9⟩
theorem Cm {scope:Scope} {x y:Str} {px py pt cpos:Pos} {kt:Nat} {elt:Expr} {ifs:List Expr} {fe:F1} {fc:FB} {vs' cs' lo' gs':List Nat} (S:Cp X N gl vs cs ls lo gs) (s:Sh) (i j k:Nat) (hij:(i != j)=true) (hx:N[i]?=some x) (hy:N[j]?=some y) (hk:gl[k]?=some ("enumerate":Str)) (hg:gs.contains k=true) (hm:X.mg "enumerate"=none) (h1:vi N [i,j] cs scope=true) (h2:d6 N gl vs' cs' [i,j] lo' gs' scope=true) (ha:Q (PE X a (tE X.K W fa))) (hs1:starEach [a] X.env=[(false,eval a X.env)]) (hc:vh X N gl vs' cs' [i,j] lo' gs' fun Y=>Q (PF Y ifs (tT Y.K W0 fc))) (he:vh X N gl vs' cs' [i,j] lo' gs' fun Y=>Q (PE Y elt (tE Y.K W0 fe))) (hs:∀x,foldedSetIterable (.Call (.Name "enumerate" p) [a] [] cpos) X.env x=pure x):Q (PE X (.ListComp elt [⟨.Tuple [.Name x px,.Name y py] kt pt,.Call (.Name "enumerate" p) [a] [] cpos,ifs,0⟩] scope pos) (tE X.K W (yQ s i j fa fc fe))):=⟨by
 have ha:=ha.p
 have hc:=fun Y S F=>(hc Y S F).p
 have he:=fun Y S F=>(he Y S F).p
 have B:=fun cells C s₀ H₀ ex=>S.blk h2 cells C s₀ H₀ ex
 have L:=fun cells C s₀ H₀ ex=>(B cells C s₀ H₀ ex).loc i x hx (by simp)
 have L2':=fun cells C s₀ H₀ ex=>(B cells C s₀ H₀ ex).loc j y hy (by simp)
 have hN:X.N.Nodup:=by rw [S.hN];exact S.nd
 exact aZ (xQ (yY S h1) S.calm (oh (S.g hk hg).1 hm (da_cons ha da_nil hs1) hs1)
  (fun cells C s₀ H₀ ex=>Gr (X:=blk X scope cells C s₀ H₀ ex) S.calm (BG (mi (X:=blk X scope cells C s₀ H₀ ex) (i:=i) hN (by show X.N[i]?=_;rw [S.hN];exact hx) (L cells C s₀ H₀ ex).1 (L cells C s₀ H₀ ex).2) (BG (mi (X:=blk X scope cells C s₀ H₀ ex) (i:=j) hN (by show X.N[j]?=_;rw [S.hN];exact hy) (L2' cells C s₀ H₀ ex).1 (L2' cells C s₀ H₀ ex).2) GM)))
  (fun cells C s₀ H₀ ex=>hc _ (B cells C s₀ H₀ ex) ⟨rfl,rfl,rfl,rfl,rfl,rfl⟩) (fun cells C s₀ H₀ ex=>he _ (B cells C s₀ H₀ ex) ⟨rfl,rfl,rfl,rfl,rfl,rfl⟩) hs) fun _ _ _=>sq (by simpa using hij)⟩
end
end TQ
namespace L2
open PySem PySem.Spec PyProof.Rows
variable {pos:Pos} {X:Cx}
section
variable {κ:Type} [DecidableEq κ]
def cg (kvs:List (κ×V)) (k:κ):Option V:=(kvs.find? fun kv=>decide (kv.1=k)).map (·.2)
def pO (kvs:List (κ×V)) (k:κ) (v:V):List (κ×V):=
 if (kvs.any fun kv=>decide (kv.1=k))=true then kvs.map (fun kv=>if kv.1=k then (kv.1,v) else kv) else kvs++[(k,v)]
theorem Ca {p:κ×V} {r:List (κ×V)} {k:κ} (e:p.1=k):cg (p::r) k=some p.2:=by simp [cg,find?_cons,e]
theorem xX {p:κ×V} {r:List (κ×V)} {k:κ} (e:¬p.1=k):cg (p::r) k=cg r k:=by simp [cg,find?_cons,e]
theorem Fc (k:κ):∀kvs:List (κ×V),(kvs.any fun kv=>decide (kv.1=k))=(cg kvs k).isSome
 | []=>rfl
 | p::r=>by
  rw [List.any_cons];by_cases e:p.1=k
  ·simp only [Ca e,decide_eq_true e,Bool.true_or,Option.isSome_some]
  ·rw [xX e,decide_eq_false e,Bool.false_or];exact Fc k r
theorem sI {kvs:List (κ×V)} {k:κ} (v:V) (h:cg kvs k=none):pO kvs k v=kvs++[(k,v)]:=by
 unfold pO;rw [Fc,h];exact if_neg (by decide)
theorem RelO.isSome_eq {o:Option V} {u:Option Value} (r:RelO o u):o.isSome=u.isSome:=by
 cases o with
 | none=>cases u with
  | none=>rfl
  | some _=>exact (show False from r).elim
 | some _=>cases u with
  | none=>exact (show False from r).elim
  | some _=>rfl
end
theorem yq {P:Program} {w:World} {k:d8} {u:Value} (r:RelV (kV k) u):(jU P w).is k u=true:=by
 cases k with
 | inl i=>obtain ⟨t,e⟩:=(show ∃t,u=Value.int i t from r);subst e;exact kZ P w i t
 | inr x=>obtain ⟨t,e⟩:=(show ∃t,u=Value.str x t from r);subst e;exact kY P w x t
theorem i4 {P:Program} {w:World}:∀{ks:List d8} {us:List Value},Vals (ks.map kV) us->ItemsAre (jU P w) ks us
 | [],_,r=>by rw [List.map_nil] at r;cases r;exact .nil
 | k::ks,_,r=>by
  rw [map_cons] at r
  cases r with
  | cons h t=>exact .cons (yq h) (i4 t)
section
variable {X:Cx} {pins:List (Addr×Obj)} {U:St} {H:Hp} {s:Shared} {a:Addr} {y v:V} {u r:Value} {o:Option V} {A:Around} {E:Value->Shared->Prop}
theorem Inv.big (I:Inv X pins U H s):sysModules<s.heap.objs.size:=by
 have h:mainGlobals<s.heap.objs.size:=(I.mod.glob.keeps I.bk).lt
 exact Nat.lt_trans (by decide) h
theorem EK {h':Heap} {t':Nat} {ob:HO} (I:Inv X pins U H s) (mu:Es (H a)) (hs:Heap.SameBut a s.heap h') (he:∃q,h'.get? a=some q) (new:ObjOk X.prog X.w (upd H a ob) h' a ob) :
  Inv X pins U (upd H a ob) { s with heap:=h',toks:=t' }:=
 I.write (x:=a) (e:=a) mu (.inl rfl) (fun b q hb z=>(hs.2 b hb).trans z) he new
end
def Bj (i:Expr):Prop:=∀ov iv,subscripted i false ov iv=operate [ov,iv] (getItem ov iv)
theorem nL {prog:Program} {w:World} {A:Around} {E:Value->Shared->Prop} {s:Shared} {env:Env} {value slice:Expr} {T id:String} {Q:Value->Shared->Prop}
  (hl:typeLookup (.type T) "__getitem__"=pure (some (.builtin id))) (hs:Bj slice)
  (h:wpAny (model prog w) A (eval value env) (fun o s₁=>wpAny (model prog w) A (eval slice env) (fun i s₂=>s₂.TypeIs o T/\wpAny (model prog w) A (getItem o i) Q E s₂) E s₁) E s) :
  wpAny (model prog w) A (eval (.Subscript value slice pos) env) Q E s:=by
 refine Subscript_ (wpAny_mono h (fun o s₁ h₁=>wpAny_mono h₁ (fun i s₂ h₂=>?_) fun _ _ x=>x) fun _ _ x=>x)
 obtain ⟨hT,h₂⟩:=h₂;unfold subscriptTail;refine Kx ?_
 rw [getitemInPython_of_ne hT.not_modules];refine Kx (wpAny_specialOf hT hl ?_)
 have fin:wpAny (model prog w) A (subscripted slice false o i) (fun r s₃=>wpAny (model prog w) A (letTemporaryGo value o r >>= fun _=>pure r) Q E s₃) E s₂:=by
  rw [hs o i];exact wpAny_operating (wpAny_mono h₂ (fun r s₃ h₃=>Kx (wpAny_letTemporaryGo (Ky h₃))) fun _ _ x=>x)
 first
  | exact Ky (Kx fin)
  | exact Kx (Ky (Kx fin))
  | exact Kx fin
def rq:List (TE×TE)->St->Hp->(List (V×V)->Hp->Prop)->Prop
 | [],_,H,Q=>Q [] H
 | (tk,tv)::r,U,H,Q=>tk U H fun x H1=>tv U H1 fun y H2=>rq r U H2 fun ps H3=>Q ((x,y)::ps) H3
abbrev VV:List (V×V)->List (Value×Value)->Prop:=Paired fun p q=>RelV p.1 q.1/\RelV p.2 q.2
def Jb (X:Cx) (pos:Pos) (keys:List (Option Expr)) (values:List Expr) (trs:List (TE×TE)):Prop:=
 ∀(pins:List (Addr×Obj)) (s:Shared) (U:St) (H:Hp) (Q:List (V×V)->Hp->Prop),Inv X pins U H s->rq trs U H Q ->
  wpAny (model X.prog X.w) X.A (evalPairs (pairTrees keys values X.env pos)) (fun vs s'=>∃ps H',Inv X pins U H' s'/\VV ps vs/\Q ps H') X.xe s
theorem we:Jb X pos [] [] []:=fun pins s U H Q I h=>pairTrees_nil_walk ⟨[],H,I,.nil,h⟩
theorem sP {k v:Expr} {ks:List (Option Expr)} {vs:List Expr} {tk tv:TE} {trs:List (TE×TE)} (hk:PE X k tk) (hv:PE X v tv) (hr:Jb X pos ks vs trs) :
  Jb X pos (some k::ks) (v::vs) ((tk,tv)::trs):=fun pins s U H Q I h=>
 pairTrees_cons_walk (bg (hk pins s U H _ I h) fun u s1 ⟨x,H1,I1,rx,q1⟩=>bg (hv pins s1 U H1 _ I1 q1) fun w2 s2 ⟨y,H2,I2,ry,q2⟩=>
  bg (hr pins s2 U H2 _ I2 q2) fun ws s3 ⟨ps,H3,I3,rel,q3⟩=>⟨(x,y)::ps,H3,I3,.cons ⟨rx,ry⟩ rel,q3⟩)
end L2
namespace T
open PySem PySem.Spec L2
open PyProof.Rows hiding St
variable {K:Fg} {X:Cx} {vs:List V} {G2 G1 F:List Addr} {He H1:Hp} {Fs Fs1:List (List Addr)} {Γ1:Ev}
def BD:KB->Bool
 | .none=>true
 | _=>false
def cW (neg:Bool):KB->KB->Option KB
 | a,.none=>some (.bool (if neg then !BD a else BD a))
 | _,_=>none
theorem kS {H:Hp} {x:V} {a:KB} (r:Rep K H x a):decide (x=V.non)=BD a:=by
 cases r<;>simp [BD]
theorem wU:GOp K (fun x y H Q=>y=.non/\Q (.bl (decide (x=.non))) H) (cW false):=by
 intro x y H Q a b d ra rb e k
 cases rb<;>simp only [cW] at e<;>try cases e
 exact ⟨rfl,by rw [kS ra];exact k _ (.bl _)⟩
theorem t6:GOp K (fun x y H Q=>y=.non/\Q (.bl (!decide (x=.non))) H) (cW true):=by
 intro x y H Q a b d ra rb e k
 cases rb<;>simp only [cW] at e<;>try cases e
 exact ⟨rfl,by rw [kS ra];exact k _ (.bl _)⟩
theorem zO (R:Rm X):Ck X .Is (fun x y H Q=>y=.non/\Q (.bl (decide (x=.non))) H) (cW false):=⟨Aa,wU⟩
theorem B4 (R:Rm X):Ck X .IsNot (fun x y H Q=>y=.non/\Q (.bl (!decide (x=.non))) H) (cW true):=⟨oq,t6⟩
def uj (fa fb:F1):F1:=aU fa fun p=>aU fb fun q=>fun Γ=>match p.d,q.d with
 | .list xs,.list ys=>if d9 p xs&&d9 q ys&&decide (xs.length+ys.length<=sizeLine) then .ok ⟨.lst .leaf,.list (xs++ys)⟩ Γ else .no
 | _,_=>.no
def sD (K:Fg):R2:=fun x y H Q=>∃l b xs zs,x=.ref l/\y=.ref b/\SqL K H l xs/\SqL K H b zs/\xs.length+zs.length<=sizeLine/\∀p,H p=none->Q (.ref p) (upd H p (.lst (xs++zs)))
theorem xp {prog:Program} {w:World} {A:Around} {E:Value->Shared->Prop} {s:Shared} {l b:Addr} {vs ws:List Value} {Q:Value->Shared->Prop} (hl:s.heap.IsList l vs.toArray) (hb:s.heap.IsList b ws.toArray) (hz:vs.length+ws.length<=sizeLine)
  (h:Q (.ref s.heap.objs.size) { s with heap:=s.heap.push { cls:=.type "list",data:=.seq (vs++ws).toArray } }):wpAny (model prog w) A (binaryOp .Add (.ref l) (.ref b)) Q E s:=by
 obtain ⟨⟨cls,dd,data,sl⟩,ho,hc,n,hd⟩:=id hl;obtain ⟨⟨cls2,dd2,data2,sl2⟩,ho2,hc2,n2,hd2⟩:=id hb;simp only at hc hd hc2 hd2
 subst hc hd hc2 hd2;have e:vs.toArray++ws.toArray=(vs++ws).toArray:=by simp
 rw [<-e] at h;exact concat_meets ⟨_,ho,rfl⟩ ⟨_,ho2,rfl⟩ noFill_list_add seq_list_add PySem.F.slot_list_add PySem.F.entry_list_add (PySem.F.args_list_add_2 _ _) (list_addW l b vs.toArray ws.toArray n n2 dd dd2 sl sl2 (by simpa using hz)) ⟨ho,ho2,h⟩
theorem wt:OpR X (binaryOp .Add) (sD X.K):=by
 intro pins s U H x y v u Q I rx ry h;obtain ⟨l,b,xs,zs,rfl,rfl,hH,hB,hz,q⟩:=h
 cases rx
 cases ry;obtain ⟨its,r,pl,z⟩:=I.list hH;obtain ⟨its2,r2,pl2,z2⟩:=I.list hB;refine xp pl.isList pl2.isList (by rw [<-r.length,<-r2.length];exact hz) ?_
 exact ⟨.ref _,_,I.lnew (t':=s.toks) (r.append r2) (by rw [length_append];exact hz),rfl,q _ I.fresh⟩
section
variable {K:Fg} {W:XW} {U:St} {H:Hp} {Q:VK} {D:cJ} {fa fb:F1} {fl:FL}
theorem Reps.app {ws:List V} {ds es:List KB} (h:Reps K H vs ds) (h':Reps K H ws es):Reps K H (vs++ws) (ds++es):=by
 refine ⟨by rw [length_append,length_append,h.1,h'.1],fun i v d e1 e2=>?_⟩
 by_cases hi:i<vs.length
 ·rw [getElem?_append_left hi] at e1
  rw [getElem?_append_left (by rw [<-h.1];exact hi)] at e2
  exact h.2 i v d e1 e2
 ·rw [getElem?_append_right (by omega)] at e1
  rw [getElem?_append_right (by rw [<-h.1];omega),<-h.1] at e2
  exact h'.2 _ v d e1 e2
theorem IX {O:List Addr} (nd:(G2++(G1++O)++F).Nodup):(∀a∈G1,a∉O++F)/\(∀a∈G2,a∉O++F):=by
 rw [append_assoc,append_assoc] at nd;obtain ⟨_,n2,n3⟩:=Kv nd;obtain ⟨_,_,n4⟩:=Kv n2;exact ⟨fun a ha z=>n4 a ha a z rfl,fun a ha z=>n3 a ha a (Ko _ z) rfl⟩
theorem CB {O:List Addr}:∀a∈O++F,a∈G2++(G1++O)++F:=fun a ha=>by
 rcases Kq ha with z | z
 ·exact Kp _ (Ko _ (Ko _ z))
 ·exact Ko _ z
theorem wH {O:List Addr} {ds:List KB} {p:Addr} (E:EnvOk K He O Fs1 H1 U Γ1) (s:Same H H1) (n:∀a∈Fs1.flatten,a∈Fs.flatten\/H a=none)
  (hr:Reps K (aC H1 (O++Fs1.flatten)) vs ds) (hp:H1 p=none):Aft K He O Fs H U Γ1 ⟨.leaf,.tuple ds⟩ (.ref p) (upd H1 p (.tup vs)) [] Fs1:=by
 refine ⟨s.trans (cb hp),by rw [nil_append];exact E.grow (cb hp),by rw [nil_append];exact n,.leaf ?_⟩
 rw [nil_append];have hn:p∉O++Fs1.flatten:=fun z=>E.inH p z hp
 exact .tup (.of (h9 bL hn)) hr.1 fun i v d h1 h2=>(hr.2 i v d h1 h2).mono (dW (cb hp) fun a ha=>.inl ha)
theorem wI {O:List Addr} {v:V} {d:KB} (E:EnvOk K He O Fs1 H1 U Γ1) (s:Same H H1) (n:∀a∈Fs1.flatten,a∈Fs.flatten\/H a=none)
  (hr:Rep K (aC H1 (O++Fs1.flatten)) v d):Aft K He O Fs H U Γ1 ⟨.leaf,d⟩ v H1 [] Fs1:=
 ⟨s,by rw [nil_append];exact E,by rw [nil_append];exact n,.leaf (by rw [nil_append];exact hr)⟩
theorem zH (h:tE K W (uj fa fb) U H Q):rz (sD K) (tE K W fa) (tE K W fb) U H Q:=by
 refine ED (R:=fun v u H2=>sD K v u H2 Q) h fun He O Fs Γ2 p q v u H1 H2 G1 G2 Fs2 nd s1 s2 E new o1 o2 w=>?_
 obtain ⟨s,d⟩:=p;obtain ⟨s',d'⟩:=q;dsimp only at w o1 o2
 split at w
 ·rename_i xs ys
  cases hc:(d9 ⟨s,.list xs⟩ xs&&d9 ⟨s',.list ys⟩ ys&&decide (xs.length+ys.length<=sizeLine)) with
  | false=>rw [hc] at w;exact w.elim
  | true=>
   rw [hc] at w;simp only [Bool.and_eq_true,decide_eq_true_eq] at hc
   obtain ⟨⟨h1,h2⟩,h3⟩:=hc;obtain ⟨d1,d2⟩:=IX E.nd;obtain ⟨p1,vs,rfl,q1,_,r1⟩:=o1.items (O':=O++Fs2.flatten) h1 CB d1
   obtain ⟨p2,ws,rfl,q2,_,r2⟩:=o2.items (O':=O++Fs2.flatten) h2 CB d2
   refine ⟨p1,p2,vs,ws,rfl,rfl,q1,q2,by rw [r1.1,r2.1];exact h3,fun p' hp'=>w _ _ _ _ (EX (E.drop (fun a ha=>Ko _ (Ko _ ha)) nd) (s1.trans s2) (fun a ha=>new a (Ko _ (Ko _ ha))) (r1.app r2) hp')⟩
 ·exact w.elim
def yJ (fa:F1):F1:=aU fa fun p Γ=>match p.d with
 | .list ds=>if d9 p ds then .ok ⟨.leaf,.tuple ds⟩ Γ else .no
 | .tuple ds=>if !p.s.isView then .ok ⟨.leaf,.tuple ds⟩ Γ else .no
 | _=>.no
theorem se (h:tE K W (yJ fa) U H Q):jV (fun xs H Q=>∃p ys,xs=[.ref p]/\((SqL K H p ys/\∀l,H l=none->Q (.ref l) (upd H l (.tup ys)))\/(SqT K H p ys/\Q (.ref p) H))) (tA K W (aa fa af)) U H Q:=by
 refine GW (QL:=fun xs H1=>∃p ys,xs=[.ref p]/\((SqL K H1 p ys/\∀l,H1 l=none->Q (.ref l) (upd H1 l (.tup ys)))\/(SqT K H1 p ys/\Q (.ref p) H1))) ?_
 refine EC h fun He O Fs Γ1 p v H1 G Fs1 nd A w=>?_
 obtain ⟨s,d⟩:=p
 cases d with
 | list ds=>
  have w:Wants K W He O Fs H U Q (if d9 ⟨s,.list ds⟩ ds then .ok ⟨.leaf,.tuple ds⟩ Γ1 else .no):=w
  cases hc:d9 ⟨s,.list ds⟩ ds with
  | false=>rw [hc] at w;exact w.elim
  | true=>
   rw [hc] at w;obtain ⟨p,vs,rfl,hq,_,hr⟩:=A.own.items (O':=O++Fs1.flatten) hc js A.disj
   exact ⟨p,vs,rfl,.inl ⟨hq,fun l hl=>w _ _ _ _ (wH A.go A.same A.newF hr hl)⟩⟩
 | tuple ds=>
  have w:Wants K W He O Fs H U Q (if !s.isView then .ok ⟨.leaf,.tuple ds⟩ Γ1 else .no):=w
  cases hc:s.isView with
  | true=>rw [hc] at w;exact w.elim
  | false=>
   rw [hc] at w;have r1:=A.own.freeze (O':=O++Fs1.flatten) hc js A.disj
   cases r1 with
   | @tup a vs _ hq hl hr=>exact ⟨a,vs,rfl,.inr ⟨aV hid_le hq,w _ _ _ _ (wI A.go A.same A.newF (.tup hq hl hr))⟩⟩
 | _=>exact w.elim
end
end T
namespace TQ
open PySem PySem.Spec L2 T
open PyProof.Rows hiding St
section
variable {X:Cx} {N gl:List Str} {vs cs ls lo gs:List Nat} {W:XW} {a b c e:Expr} {es:List Expr} {pos p:Pos} {fa fb fc:F1} {fl:FL} {ga gb:FB} {g1 g2 g:FS}
theorem rf (ha:Q (PE X a (tE X.K W fa))) (hb:Q (PE X b (tE X.K W fb))):Q (PE X (.BinOp a .Add b pos) (tE X.K W (uj fa fb))):=⟨have ha:=ha.p;have hb:=hb.p;aZ (gO wt ha hb) fun _ _ _=>zH⟩
theorem gC (S:Cp X N gl vs cs ls lo gs) (j:Nat) (hj:gl[j]?=some ("tuple":Str)) (hg:gs.contains j=true) (hm:X.mg "tuple"=none) (ha:Q (PE X e (tE X.K W fa))) (hs:starEach [e] X.env=[(false,eval e X.env)]):Q (PE X (.Call (.Name "tuple" p) [e] [] pos) (tE X.K W (yJ fa))):=⟨have ha:=ha.p;aZ (Ce iF (S.g hj hg).1 hm xv (da_cons ha da_nil hs) (by decide) (by decide) hs rfl) fun _ _ _=>se⟩
end
end TQ
namespace T
open PySem PySem.Spec L2
open PyProof.Rows hiding St
variable {X:Cx} {K:Fg} {fi:FI} {fe:F1} {Γ:Ev} {α:Type} {g:D->D->Option D} {a b:Bool} {ga gb:FB} {g1 g2:FS} {o:eF}
def lB (neg:Bool):KB->KB->Option KB
 | .bool a,.bool b=>some (.bool (if neg then a != b else a==b))
 | _,_=>none
theorem wo:OpR X (compareOp .IsNot) (fun x y H Q=>∃a b,x=.bl a/\y=.bl b/\Q (.bl (a != b)) H):=by
 intro pins s U H x y v u Q I rx ry h;obtain ⟨a,b,rfl,rfl,q⟩:=h
 cases rx
 cases ry;exact isnot_bool (BU I q rfl)
theorem t7:GOp K (fun x y H Q=>∃a b,x=.bl a/\y=.bl b/\Q (.bl (a != b)) H) (lB true):=by
 intro x y H Q a b d ra rb e k
 cases ra<;>cases rb<;>simp only [lB] at e<;>try cases e
 exact ⟨_,_,rfl,rfl,k _ (.bl _)⟩
theorem Gu (R:Rm X):Ck X .IsNot (fun x y H Q=>∃a b,x=.bl a/\y=.bl b/\Q (.bl (a != b)) H) (lB true):=⟨wo,t7⟩
theorem r6 {H:Hp} {v:V} {d1 d2:KB} (h:Rep K H v (.tuple [d1,d2])):∃T v1 v2,v=.ref T/\SqT K H T [v1,v2]/\Rep K H v1 d1/\Rep K H v2 d2:=by
 cases h with
 | @tup a vs _ hq hl hr=>
  match vs,hl with
  | [v1,v2],_=>exact ⟨a,v1,v2,rfl,hq,hr 0 v1 d1 rfl rfl,hr 1 v2 d2 rfl rfl⟩
theorem EY:(1000:Nat)<=sizeLine:=by decide
theorem HB {i:Nat} {fc:FB} {fe:F1} {s:Sh} {c:D->Bool} {f:D->PV} {Γ:Ev} (hΓ:Γ.set i none=Γ):∀(r acc:List D),(∀d∈r,fc (Γ.set i (KD d))=.ok (c d) (Γ.set i (KD d))) ->
  (∀d∈r,c d=true->fe (Γ.set i (KD d))=.ok (f d) (Γ.set i (KD d))/\coer s (f d)=true)->acc.length+r.length<=sizeLine->o9 i fc fe s r Γ acc=.ok (acc++((r.filter c).map fun d=>(f d).d)) Γ
 | [],acc,_,_,_=>by simp [o9]
 | d::r,acc,hc,he,hl=>by
  have h1:=hc d mem_cons_self
  have hl1:acc.length<sizeLine:=by simp at hl;omega
  have back:(Γ.set i (KD d)).set i none=Γ:=by rw [set_set];exact hΓ
  rw [o9,h1]
  cases hcd:c d with
  | false=>
   dsimp only;rw [if_pos hl1,back,HB hΓ r acc (fun d hd=>hc d (Ku _ hd)) (fun d hd=>he d (Ku _ hd)) (by simp at hl;omega)]
   rw [List.filter_cons_of_neg (by rw [hcd];exact Bool.false_ne_true)]
  | true=>
   obtain ⟨h2,h3⟩:=he d mem_cons_self hcd;dsimp only;rw [h2];dsimp only;rw [h3,decide_eq_true hl1,Bool.and_self,if_pos rfl,back,HB hΓ r (acc++[(f d).d]) (fun d hd=>hc d (Ku _ hd)) (fun d hd=>he d (Ku _ hd)) (by simp at hl ⊢;omega)]
   rw [List.filter_cons_of_pos hcd,map_cons,append_assoc];rfl
theorem Hy {s:Sh} {i:Nat} {fc:FB} {c:D->Bool} {f:D->PV} {ds:List D} {st:Bool} (hi:fi Γ=.ok ⟨ds,st⟩ Γ) (hl:i<Γ.length) (hs:s.isView=false) (hn:ds.length<=1000)
  (hc:∀d∈ds,fc (Γ.set i (KD d))=.ok (c d) (Γ.set i (KD d))) (he:∀d∈ds,c d=true->fe (Γ.set i (KD d))=.ok (f d) (Γ.set i (KD d))/\coer s (f d)=true) :
  aG s i fi fc fe Γ=.ok ⟨.lst s,.list ((ds.filter c).map fun d=>(f d).d)⟩ Γ:=by
 have hb:=EY
 unfold aG;rw [hi];unfold Out.bind;dsimp only;rw [HB (c:=c) (f:=f) (by rw [set_set]) ds [] (fun d hd=>by rw [set_set];exact hc d hd) (fun d hd=>by rw [set_set];exact he d hd) (by simp;omega)]
 dsimp only;rw [hs,decide_eq_true hl];simp only [Bool.not_false,Bool.and_self,if_true,nil_append,set_set]
 have:Γ.set i (Γ.getD i none)=Γ:=by
  apply yV
  rw [Kt,Ks hl];rfl
 rw [this]
theorem BF {s:Sh} {i:Nat} {f:D->PV} {ds:List D} {st:Bool} (hi:fi Γ=.ok ⟨ds,st⟩ Γ) (hl:i<Γ.length) (hs:s.isView=false) (hn:ds.length<=1000)
  (he:∀d∈ds,fe (Γ.set i (KD d))=.ok (f d) (Γ.set i (KD d))/\coer s (f d)=true) :
  aG s i fi aO fe Γ=.ok ⟨.lst s,.list (ds.map fun d=>(f d).d)⟩ Γ:=by
 rw [Hy (fc:=aO) (c:=fun _=>true) (f:=f) hi hl hs hn (fun d hd=>rfl) fun d hd _=>he d hd,List.filter_eq_self.mpr fun _ _=>rfl]
theorem G9 {P:Nat->Ev->Prop} {i:Nat} {body:FS}:∀(ds:List D) (n:Nat) (Γ:Ev),P n Γ->(∀k d Γ,d∈ds->n<=k->k<n+ds.length->P k Γ->i<Γ.length/\∃Γ',body (Γ.set i (KD d))=.nx Γ'/\P (k+1) Γ')->∃Γ',dm i body ds Γ=.nx Γ'/\P (n+ds.length) Γ'
 | [],n,Γ,h,_=>⟨Γ,rfl,h⟩
 | d::r,n,Γ,h,st=>by
  obtain ⟨hi,Γ1,e1,h1⟩:=st n d Γ mem_cons_self (KA _) (by simp) h
  obtain ⟨Γ2,e2,h2⟩:=G9 r (n+1) Γ1 h1 fun k d Γ hd a b c=>st k d Γ (Ku _ hd) (by omega) (by simp;omega) c
  refine ⟨Γ2,?_,?_⟩
  ·rw [dm,if_pos hi,e1]
   exact e2
  ·rw [length_cons,show n+(r.length+1)=n+1+r.length by omega]
   exact h2
theorem ud {any:Bool} {xs:List α} {f:α->Bool}:vm (xs.map fun x=>.bool (f x))=some (xs.map f):=by
 induction xs with
 | nil=>rfl
 | cons x r ih=>rw [map_cons,vm,ih];rfl
theorem BC {xs:List α} {f:α->Bool}:iy false [.list (xs.map fun x=>.bool (f x))]=some (.bool (xs.all f)):=by
 show Option.map _ (vm _)=_
 rw [ud (any:=false)];simp [all_map]
section
variable {Γ Γ1 Γ2:Ev} {fa fb fc:F1} {fl:FL} {p q:PV} {ps:List PV} {d e:D} {s s' s2:Sh} {i j n:Nat}
theorem aj (h:Γ[i]?=some (KD d)):ae i Γ=.ok ⟨.leaf,d⟩ Γ:=by unfold ae;rw [h]
theorem j6 (h:Γ[i]?=some (some ⟨.lst s,d⟩)):ae i Γ=.ok ⟨.view,d⟩ Γ:=by unfold ae;rw [h]
theorem yN (h:Γ[i]?=some (some p)):cz i Γ=.ok p (Γ.set i none):=by unfold cz;rw [h]
theorem aK:eK d Γ=.ok ⟨.leaf,d⟩ Γ:=rfl
theorem aB (ha:fa Γ=.ok p Γ1) (hb:fb Γ1=.ok q Γ2) (hg:g p.d q.d=some d):aE g fa fb Γ=.ok ⟨.leaf,d⟩ Γ2:=by
 unfold aE aU;rw [ha];simp only [Out.bind];rw [hb];simp only [hg]
theorem ar (ha:fa Γ=.ok p Γ1) (hl:fl Γ1=.ok ps Γ2):aa fa fl Γ=.ok (p::ps) Γ2:=by
 unfold aa;rw [ha];simp only [Out.bind];rw [hl]
theorem ag:af Γ=.ok [] Γ:=rfl
theorem dS {g:List D->Option D} (hl:fl Γ=.ok ps Γ1) (hg:g (ps.map (·.d))=some d):cX g fl Γ=.ok ⟨.leaf,d⟩ Γ1:=by
 unfold cX;rw [hl];simp only [Out.bind];rw [hg]
theorem bR {den:List D->b9} (hl:fl Γ=.ok ps Γ1) (hd:den (ps.map (·.d))=.ok p) (hn:ps.length=n) (hc:ps.all (coer .leaf)=true):ah n den fl Γ=.ok p Γ1:=by
 unfold ah;rw [hl];simp only [Out.bind,hn,hd,hc,if_true]
theorem xN {ds:List D} {k:Int} (ha:fa Γ=.ok ⟨s,.list ds⟩ Γ1) (hb:fb Γ1=.ok ⟨s',.int k⟩ Γ2) (hi:fQ ds.length k=some j) (hd:ds[j]?=some d) (hs:ma s j d=some s2):ak fa fb Γ=.ok ⟨s2,d⟩ Γ2:=by
 unfold ak aU;rw [ha];simp only [Out.bind];rw [hb];simp only [hi,hd,hs]
theorem dq {ds:List D} {k:Int} (ha:fa Γ=.ok ⟨s,.tuple ds⟩ Γ1) (hb:fb Γ1=.ok ⟨s',.int k⟩ Γ2) (hi:fQ ds.length k=some j) (hd:ds[j]?=some d) (hs:ma s j d=some s2):ak fa fb Γ=.ok ⟨s2,d⟩ Γ2:=by
 unfold ak aU;rw [ha];simp only [Out.bind];rw [hb];simp only [hi,hd,hs]
theorem y3 {x:Str} {k:Int} {c:Nat} (ha:fa Γ=.ok ⟨s,.str x⟩ Γ1) (hb:fb Γ1=.ok ⟨s',.int k⟩ Γ2) (hn:x.length<=sizeLine) (hi:eD x.cps.toList k=some c):ak fa fb Γ=.ok ⟨.leaf,.str ⟨#[c]⟩⟩ Γ2:=by
 unfold ak aU;rw [ha];simp only [Out.bind];rw [hb];simp only [hi,hn,if_true]
theorem qI (hl:fl Γ=.ok ps Γ1) (hs:s.isView=false) (hc:ps.all (coer s)=true) (hn:decide (ps.length<=1000)=true):bz s fl Γ=.ok ⟨.lst s,.list (ps.map (·.d))⟩ Γ1:=by
 have h2:ps.length<=sizeLine:=Nat.le_trans (of_decide_eq_true hn) EY
 unfold bz;rw [hl];simp only [Out.bind,hs,hc,decide_eq_true h2,Bool.not_false,Bool.and_self,if_true]
theorem de (hl:fl Γ=.ok ps Γ1) (hc:ps.all tok=true) (hn:decide (ps.length<=1000)=true):cy fl Γ=.ok ⟨.tup (ps.map y7),.tuple (ps.map (·.d))⟩ Γ1:=by
 have h2:ps.length<=sizeLine:=Nat.le_trans (of_decide_eq_true hn) EY
 unfold cy;rw [hl];simp only [Out.bind,hc,decide_eq_true h2,Bool.and_self,if_true]
theorem Fb {ds:List D} (ha:fa Γ=.ok ⟨s,.list ds⟩ Γ1) (ho:d9 ⟨s,.list ds⟩ ds=true):qJ fa Γ=.ok ⟨.lst .leaf,.list ds⟩ Γ1:=by
 unfold qJ aU;rw [ha];simp only [Out.bind,ho,if_true]
theorem v_and (ha:fa Γ=.ok ⟨s,.bool a⟩ Γ) (hb:fb Γ=.ok ⟨.leaf,.bool b⟩ Γ):lG fa fb Γ=.ok ⟨.leaf,.bool (a&&b)⟩ Γ:=by
 unfold lG aU;rw [ha];simp only [Out.bind]
 cases a with
 | false=>rfl
 | true=>exact hb
theorem nE {g':D->D->Option D} {b':Bool} (ha:fa Γ=.ok p Γ) (hb:fb Γ=.ok q Γ) (hg:g p.d q.d=some (.bool b)) (hs:bB q.d=true) {z:PV} (hc:fc Γ=.ok z Γ) (hg':g' q.d z.d=some (.bool b')):uZ g g' fa fb fc Γ=.ok ⟨.leaf,.bool (b&&b')⟩ Γ:=by
 unfold uZ aU;rw [ha];simp only [Out.bind];rw [hb];simp only [hg]
 cases b with
 | false=>rfl
 | true=>simp only [hs,if_true,hc,hg',Bool.true_and]
theorem dt (ha:fa Γ=.ok ⟨s,.bool b⟩ Γ1):bo aw fa Γ=.ok b Γ1:=by unfold bo;rw [ha];rfl
theorem lU (ha:fa Γ=.ok ⟨s,.bool b⟩ Γ1):bo g4 fa Γ=.ok b Γ1:=by unfold bo;rw [ha];rfl
theorem uD (h:ga Γ=.ok b Γ1):jQ ga Γ=.ok (!b) Γ1:=by unfold jQ;rw [h];rfl
theorem oZ (ha:ga Γ=.ok a Γ) (hb:gb Γ=.ok b Γ):gx ga gb Γ=.ok (a&&b) Γ:=by
 unfold gx;rw [ha];simp only [Out.bind]
 cases a with
 | false=>rfl
 | true=>exact hb
theorem uC (ha:ga Γ=.ok a Γ) (hb:gb Γ=.ok b Γ):lV ga gb Γ=.ok (a||b) Γ:=by
 unfold lV;rw [ha];simp only [Out.bind]
 cases a with
 | false=>exact hb
 | true=>rfl
theorem cM {ds:List D} (ha:fa Γ=.ok ⟨s,.list ds⟩ Γ1) (ho:d9 ⟨s,.list ds⟩ ds=true):bA fa Γ=.ok ⟨ds,!s.isView⟩ Γ1:=by
 unfold bA;rw [ha];simp only [Out.bind,ho,if_true]
theorem qV {k:Int} (hl:fl Γ=.ok ps Γ1) (hp:ps.map (·.d)=[.int k]) (h0:-1000<=k) (h1:k<=100000):gm fl Γ=.ok ⟨b6 0 k.toNat,true⟩ Γ1:=by
 have h3:dC k=true:=by unfold dC;simp only [Bool.and_eq_true,decide_eq_true_eq];omega
 unfold gm;rw [hl];simp only [Out.bind,hp,pH,h3,if_true]
theorem HE {k m:Int} (hl:fl Γ=.ok ps Γ1) (hp:ps.map (·.d)=[.int k,.int m]) (h0:-1000<=k) (h1:k<=100000) (h2:-1000<=m) (h4:m<=100000):yx fl Γ=.ok ⟨b6 k (m-k).toNat,true⟩ Γ1:=by
 have h3:dC k=true:=by unfold dC;simp only [Bool.and_eq_true,decide_eq_true_eq];omega
 have h5:dC m=true:=by unfold dC;simp only [Bool.and_eq_true,decide_eq_true_eq];omega
 unfold yx;rw [hl];simp only [Out.bind,hp,pG,h3,h5,Bool.and_self,if_true]
theorem az (h1:g1 Γ=.nx Γ1) (h2:g2 Γ1=o):aI g1 g2 Γ=o:=by unfold aI;rw [h1];exact h2
theorem yO (h1:g1 Γ=.rt p):aI g1 g2 Γ=.rt p:=by unfold aI;rw [h1]
theorem bU {c:FB} {a b:FS} {t:Bool} (hc:c Γ=.ok t Γ1) (ht:t=true->a Γ1=o) (hf:t=false->b Γ1=o):fz c a b Γ=o:=by
 unfold fz;rw [hc]
 cases t with
 | true=>exact ht rfl
 | false=>exact hf rfl
theorem aW (h:fa Γ=.ok p Γ1) (hs:p.s.isView=false):bh fa Γ=.rt p:=by
 unfold bh nQ;rw [h];simp only [hs];rfl
theorem fx (h:fa Γ=.ok p Γ1) (hc:coer .leaf p=true) (hi:i<Γ1.length):aP false i fa Γ=.nx (Γ1.set i (KD p.d)):=by
 unfold aP nQ;rw [h];simp only [hi,if_true,hc,Bool.false_and];rfl
theorem xO (h:fa Γ=.ok p Γ1) (hs:p.s.isView=false) (hi:i<Γ1.length):aP true i fa Γ=.nx (Γ1.set i (some p)):=by
 unfold aP nQ;rw [h];simp only [hi,if_true,hs,Bool.true_and,Bool.not_false]
theorem Fi {ds:List D} (ho:Γ[i]?=some (some ⟨.lst s,.list ds⟩)) (h:fa Γ=.ok p Γ) (hc:coer s p=true) (hn:ds.length<=900):jY i fa Γ=.nx (Γ.set i (some ⟨.lst s,.list (ds++[p.d])⟩)):=by
 have h2:ds.length<sizeLine:=Nat.lt_of_lt_of_le (by omega:ds.length<1000) EY
 unfold jY BV;rw [ho];simp only [if_true];unfold nQ;rw [h];simp only;unfold Bc;rw [ho];simp only [hc,decide_eq_true h2,Bool.and_self,if_true]
theorem qU {body:FS} {ds:List D} (h:fi Γ=.ok ⟨ds,true⟩ Γ1) (hg:dm i body ds Γ1=o):ig i fi body Γ=o:=by unfold ig;rw [h];exact hg
end
end T
namespace KC
open PySem PySem.Spec L2 T
open PyProof.Rows hiding St
variable {x:Str} {a b lo c at' lim:Int} {n:Nat} {g:FS} {os ms ss:List D} {ts:List Int}
noncomputable def b8:KB:=.tuple [.str "a",.str "b",.str "c",.str "d",.str "e",.str "f"]
noncomputable def b7:KB:=.tuple [.int 0,.int 1]
noncomputable def dA:KB:=.int 24
noncomputable def lH:FS:=(bh (cX (iy false) (aa (aG .leaf 1 (yx (aa (eK (.int 1)) (aa (cX bZ (aa (ae 0) af)) af))) aO (aE jX (ak (ae 0) (aE wY (ae 1) (eK (.int 1)))) (ak (ae 0) (ae 1)))) af)))
noncomputable def cP:List KB->b9:=aQ 2 lH
noncomputable def lL:FS:=(bh (lG (cX (iy false) (aa (aG .leaf 1 (bA (ae 0)) aO (aE (eA false) (ae 1) (eK b8))) af)) (ah 1 cP (aa (ae 0) af))))
noncomputable def cR:List KB->b9:=aQ 2 lL
noncomputable def lK:FS:=(bh (lG (cX (iy false) (aa (aG .leaf 2 (bA (ae 0)) aO (uZ BO jX (eK (.int 0)) (ae 2) (ae 1))) af)) (ah 1 cP (aa (ae 0) af))))
noncomputable def dP:List KB->b9:=aQ 3 lK
noncomputable def lJ:FS:=(bh (lG (aE qN (cX bZ (aa (ae 0) af)) (eK (.int 0))) (ah 2 dP (aa (ae 0) (aa (ae 1) af)))))
noncomputable def cQ:List KB->b9:=aQ 2 lJ
noncomputable def mY:FS:=(aI (aP false 3 (cX bZ (aa (ae 0) af)))
  (aI (fz (lV (bo aw (aE jX (ae 3) (eK (.int 1)))) (lV (bo aw (aE qN (ae 3) (eK dA))) (lV (bo aw (aE iw (cX bZ (aa (ae 1) af)) (ae 3))) (bo aw (aE iw (cX bZ (aa (ae 2) af)) (ae 3)))))) (bh (eK (.bool false))) bt)
  (aI (fz (jQ (bo g4 (cX (iy false) (aa (aG .leaf 4 (bA (ae 0)) aO (aE (eA false) (ae 4) (eK b7))) af)))) (bh (eK (.bool false))) bt)
  (bh (lG (cX (iy false) (aa (aG .leaf 5 (bA (ae 1)) aO (ah 1 cR (aa (ae 5) af))) af)) (cX (iy false) (aa (aG .leaf 5 (bA (ae 2)) aO (ah 2 cQ (aa (ae 5) (aa (ae 3) af)))) af)))))))
noncomputable def dw:List KB->b9:=aQ 6 mY
noncomputable def iE:FS:=(fz (jQ (bo g4 (ah 3 dw (aa (ak (ae 0) (eK (.int 0))) (aa (ak (ae 0) (eK (.int 1))) (aa (ak (ae 0) (eK (.int 2))) af)))))) HY bt)
noncomputable def ay:List KB->b9:=aQ 1 iE
noncomputable def hJ:FS:=(aI (fz (bo aw (aE jX (ae 1) (cX bZ (aa (ae 0) af)))) (bh (ak (ae 0) (ae 1))) bt)
  (bh (eK (.int 0))))
noncomputable def ax:List KB->b9:=aQ 2 hJ
noncomputable def lN:FS:=(aI (fz (bo aw (aE mP (ae 0) (aE wZ (eK (.int 10)) (eK (.int 18))))) (aI (aP false 4 (ae 0))
  (aI (ig 5 (gm (aa (ae 1) af))
  (aP false 4 (aE gp (ae 4) (ae 2))))
  (bh (aE bS (ae 4) (ae 2))))) bt)
  (aI (aP false 3 (aE bS (aE lA (aE aX (aE aX (aE bS (ae 0) (eK (.int 1000000007))) (aE lA (eK (.int 1009)) (ae 1))) (eK (.int 17))) (eK (.int 69621))) (eK (.int 2147483647))))
  (aI (aP false 3 (aE bS (aE aX (aE aX (aE lA (ae 3) (ae 3)) (aE lA (eK (.int 40503)) (ae 1))) (eK (.int 5))) (eK (.int 2147483629))))
  (bh (aE bS (aE gp (aE bS (aE lA (ae 3) (eK (.int 48271))) (eK (.int 2147483647))) (eK (.int 32))) (ae 2))))))
noncomputable def au:List KB->b9:=aQ 6 lN
noncomputable def jK:FS:=(aI (aP false 3 (aE aX (eK (.int 1)) (aE bS (ah 2 ax (aa (ae 0) (aa (ae 1) af))) (ae 2))))
  (aI (aP true 4 (bz .leaf af))
  (aI (aP true 5 (bz .leaf af))
  (aI (aP true 6 (bz .leaf af))
  (aI (ig 7 (gm (aa (ae 3) af))
  (aI (aP false 8 (ah 2 ax (aa (ae 0) (aa (aE aX (aE aX (ae 1) (eK (.int 1))) (ae 7)) af))))
  (aI (jY 4 (ah 3 au (aa (ae 8) (aa (eK (.int 0)) (aa (eK (.int 2)) af)))))
  (aI (jY 5 (aG .leaf 11 (gm (aa (eK (.int 3)) af)) (bo aw (aE eC (ah 3 au (aa (ae 8) (aa (aE aX (eK (.int 1)) (ae 11)) (aa (eK (.int 2)) af)))) (eK (.int 1)))) (ak (eK (.str "abc")) (ae 11))))
  (aI (aP false 9 (aG .leaf 10 (gm (aa (ae 3) af)) (bo aw (aE eC (ah 3 au (aa (ae 8) (aa (aE aX (eK (.int 4)) (ae 10)) (aa (aE aX (eK (.int 2)) (cX uc (aa (aE qN (ae 3) (eK (.int 3))) af))) af)))) (eK (.int 1)))) (ae 10)))
  (aI (fz (bo aw (aE eC (ae 9) (bz .leaf af))) (aP false 9 (bz .leaf (aa (ah 3 au (aa (ae 8) (aa (aE aX (eK (.int 4)) (ae 3)) (aa (ae 3) af)))) af))) bt)
  (jY 6 (ae 9))))))))
  (bh (cy (aa (cz 4) (aa (cz 5) (aa (cz 6) af))))))))))
noncomputable def dy:List KB->b9:=aQ 12 jK
open PySem.SeqAt
noncomputable def Ao (a b:D):Bool:=match jX a b with
 | some (.bool t)=>t
 | _=>false
noncomputable def eE (ds:List D):Prop:=∀a∈ds,∃n,a=.int n
noncomputable def jS (ds:List D):Prop:=∀a∈ds,∃x,a=.str x/\PyData.strOk x=true
noncomputable def Row (ds:List D):Prop:=eE ds\/jS ds
theorem yM (i:Int):shaped (.int i)=true:=by simp [shaped,PyData.canLay0,PyData.depth]
theorem rH (h:PyData.strOk x=true):shaped (.str x)=true:=by simp [shaped,PyData.canLay0,PyData.depth,h]
theorem Row.lt {ds:List D} {a b:D} (h:Row ds) (ha:a∈ds) (hb:b∈ds):jX a b=some (.bool (Ao a b))/\mP a b=some (.bool (!Ao a b)):=by
 rcases h with h | h
 ·obtain ⟨n,rfl⟩:=h a ha
  obtain ⟨m,rfl⟩:=h b hb;refine ⟨rfl,?_⟩
  show some (PyData.bool (decide (m<=n)))=some (.bool (!decide (n<m)))
  congr 2
  by_cases q:n<m
  ·simp [q,Int.not_le.mpr q]
  ·simp [q,Int.not_lt.mp q]
 ·obtain ⟨n,rfl,_⟩:=h a ha
  obtain ⟨m,rfl,_⟩:=h b hb;exact ⟨rfl,rfl⟩
noncomputable def yo (ds:List D) (d:D):Bool:=match d with
 | .int j=>Ao (ds.getD (j-1).toNat .none) (ds.getD j.toNat .none)
 | _=>false
noncomputable def dY (ds:List D):Bool:=(b6 1 ((ds.length:Int)-1).toNat).all (yo ds)
theorem xP {d:D} (h:d∈b6 lo n):∃k:Nat,k<n/\d=.int (lo+k):=by
 unfold b6 at h;simp only [mem_map,mem_range] at h
 obtain ⟨k,hk,e⟩:=h;exact ⟨k,hk,e.symm⟩
theorem BE:(b6 lo n).length=n:=by unfold b6;simp
theorem EJ {k:Nat} (h:k<n):fQ n (k:Int)=some k:=by
 unfold fQ;rw [if_pos (by omega),if_pos (by omega)]
 simp
theorem DH {i:Int} (h0:0<=i) (h1:i<n):fQ n i=some i.toNat:=by
 unfold fQ;rw [if_pos h0,if_pos h1]
theorem EI {ds:List D} {k:Nat} (h:k<ds.length):ds[k]?=some (ds.getD k .none):=by
 rw [Kt,Ks h];rfl
theorem getD_mem {ds:List D} {k:Nat} (h:k<ds.length):ds.getD k .none∈ds:=mem_of_getElem? (EI h)
theorem DE {ds:List D} {k:Nat} (h:Row ds) (hk:k<((ds.length:Int)-1).toNat):fQ ds.length (1+(k:Int)-1)=some k/\fQ ds.length (1+(k:Int))=some (k+1)/\ds[k]?=some (ds.getD k .none)/\ds[k+1]?=some (ds.getD (k+1) .none) /\
  jX (ds.getD k .none) (ds.getD (k+1) .none)=some (.bool (yo ds (.int (1+(k:Int)))))/\mP (ds.getD k .none) (ds.getD (k+1) .none)=some (.bool (!yo ds (.int (1+(k:Int))))):=by
 have h1:k<ds.length:=by omega
 have h2:k+1<ds.length:=by omega
 have l:=h.lt (getD_mem h1) (getD_mem h2)
 have e3:yo ds (.int (1+(k:Int)))=Ao (ds.getD k .none) (ds.getD (k+1) .none):=by
  unfold yo;dsimp only;rw [show (1+(k:Int)-1).toNat=k by omega,show (1+(k:Int)).toNat=k+1 by omega]
 rw [e3];exact ⟨by rw [show (1+(k:Int)-1)=k by omega];exact EJ h1,by rw [show (1+(k:Int))=((k+1:Nat):Int) by omega];exact EJ h2,EI h1,EI h2,l.1,l.2⟩
theorem bj {ds:List D} {p:PV} (h:g (bO n ds)=.rt p):aQ n g ds=.ok p:=by unfold aQ;rw [h]
theorem eq_int:eC (.int a) (.int b)=some (.bool (a==b)):=by
 unfold eC;rw [yM,yM,Bool.and_self,if_pos rfl,PyData.eqv]
theorem d5 {ds:List D} (h:Row ds) (hl:ds.length<=100):cP [.list ds]=.ok ⟨.leaf,.bool (dY ds)⟩:=by
 have hc:aG .leaf 1 (yx (aa (eK (.int 1)) (aa (cX bZ (aa (ae 0) af)) af))) aO (aE jX (ak (ae 0) (aE wY (ae 1) (eK (.int 1)))) (ak (ae 0) (ae 1))) [KD (.list ds),none] =
   .ok ⟨.lst .leaf,.list ((b6 1 ((ds.length:Int)-1).toNat).map fun d=>.bool (yo ds d))⟩ [KD (.list ds),none]:=by
  refine BF (f:=fun d=>⟨.leaf,.bool (yo ds d)⟩) (st:=true) (HE (k:=1) (m:=(ds.length:Int)) (ar aK (ar (dS (ar (aj rfl) ag) rfl) ag)) rfl (by omega) (by omega) (by omega) (by omega)) (by simp) rfl (by rw [BE];omega) fun d hd=>⟨?_,rfl⟩
  obtain ⟨k,hk,rfl⟩:=xP hd;obtain ⟨e1,e2,e3,e4,e5,e6⟩:=DE h hk;exact aB (xN (aj rfl) (aB (aj rfl) aK rfl) e1 e3 rfl) (xN (aj rfl) (aj rfl) e2 e4 rfl) e5
 exact bj (aW (dS (ar hc ag) BC) rfl)
noncomputable def AE (a:D):Bool:=[PyData.str "a",.str "b",.str "c",.str "d",.str "e",.str "f"].any fun y=>PyData.eqv y a
noncomputable def DM (a:D):Bool:=[PyData.int 0,.int 1].any fun y=>PyData.eqv y a
noncomputable def inR (n:Int) (a:D):Bool:=match a with
 | .int i=>decide (0<=i)&&decide (i<n)
 | _=>false
noncomputable def An (d:D):Bool:=match d with
 | .list xs=>xs.all AE&&dY xs
 | _=>false
noncomputable def FO (n:Int) (d:D):Bool:=match d with
 | .list xs=>decide (0<xs.length)&&(xs.all (inR n)&&dY xs)
 | _=>false
theorem zi:shaped b8=true:=by decide +kernel
theorem CC:shaped b7=true:=by decide +kernel
theorem AD (hx:PyData.strOk x=true):eA false (.str x) b8=some (.bool (AE (.str x))):=by
 unfold eA b8;have:=zi
 unfold b8 at this;simp only [rH hx,this,Bool.and_self,if_true]
 rfl
theorem DJ {i:Int}:eA false (.int i) b7=some (.bool (DM (.int i))):=by
 unfold eA b7;have:=CC
 unfold b7 at this;simp only [yM,this,Bool.and_self,if_true]
 rfl
theorem iC {ds:List D} (h:jS ds) (hl:ds.length<=100):cR [.list ds]=.ok ⟨.leaf,.bool (ds.all AE&&dY ds)⟩:=by
 have hc:aG .leaf 1 (bA (ae 0)) aO (aE (eA false) (ae 1) (eK b8)) [KD (.list ds),none]=.ok ⟨.lst .leaf,.list (ds.map fun d=>.bool (AE d))⟩ [KD (.list ds),none]:=by
  refine BF (f:=fun d=>⟨.leaf,.bool (AE d)⟩) (cM (aj rfl) rfl) (by simp) rfl (by omega) fun d hd=>⟨?_,rfl⟩
  obtain ⟨x,rfl,hx⟩:=h d hd;exact aB (aj rfl) aK (AD hx)
 exact bj (aW (v_and (dS (ar hc ag) BC) (bR (ar (aj rfl) ag) (d5 (.inr h) hl) rfl rfl)) rfl)
theorem chain_ev {i n:Int}:BO (.int 0) (.int i)=some (.bool (decide (0<=i)))/\jX (.int i) (.int n)=some (.bool (decide (i<n))):=⟨rfl,rfl⟩
theorem iB {ds:List D} {n:Int} (h:eE ds) (hl:ds.length<=100):dP [.list ds,.int n]=.ok ⟨.leaf,.bool (ds.all (inR n)&&dY ds)⟩:=by
 have hc:aG .leaf 2 (bA (ae 0)) aO (uZ BO jX (eK (.int 0)) (ae 2) (ae 1)) [KD (.list ds),KD (.int n),none]=.ok ⟨.lst .leaf,.list (ds.map fun d=>.bool (inR n d))⟩ [KD (.list ds),KD (.int n),none]:=by
  refine BF (f:=fun d=>⟨.leaf,.bool (inR n d)⟩) (cM (aj rfl) rfl) (by simp) rfl (by omega) fun d hd=>⟨?_,rfl⟩
  obtain ⟨i,rfl⟩:=h d hd;exact nE aK (aj rfl) (chain_ev (n:=n)).1 rfl (aj rfl) chain_ev.2
 exact bj (aW (v_and (dS (ar hc ag) BC) (bR (ar (aj rfl) ag) (d5 (.inl h) hl) rfl rfl)) rfl)
theorem iA {ds:List D} {n:Int} (h:eE ds) (hl:ds.length<=100):cQ [.list ds,.int n]=.ok ⟨.leaf,.bool (decide (0<ds.length)&&(ds.all (inR n)&&dY ds))⟩:=by
 have e:qN (.int (ds.length:Nat)) (.int 0)=some (.bool (decide (0<ds.length))):=by
  show some (PyData.bool (decide ((0:Int)<(ds.length:Int))))=_
  congr 2
  exact decide_eq_decide.mpr (by omega)
 exact bj (aW (v_and (aB (dS (ar (aj rfl) ag) rfl) aK e) (bR (ar (aj rfl) (ar (aj rfl) ag)) (iB h hl) rfl rfl)) rfl)
structure Wk (b:Nat) (os ms ss:List D):Prop where
 o:eE os
 m:∀r∈ms,∃xs,r=.list xs/\jS xs/\xs.length<=30
 s:∀r∈ss,∃xs,r=.list xs/\eE xs/\xs.length<=30
 lo:os.length<=b
 lm:ms.length<=b
 ls:ss.length<=b
noncomputable def F8 (os ms ss:List D):Bool:=decide ((os.length:Int)<1)||(decide ((24:Int)<os.length)||((!((ms.length:Int)==(os.length:Int)))||(!((ss.length:Int)==(os.length:Int)))))
noncomputable def isW (os ms ss:List D):Bool:=!F8 os ms ss&&(os.all DM&&(ms.all An&&ss.all (FO os.length)))
theorem ne_int:iw (.int a) (.int b)=some (.bool (!(a==b))):=by
 unfold iw;rw [yM,yM,Bool.and_self,if_pos rfl,PyData.eqv]
theorem jH {b:Nat} (h:Wk b os ms ss) (hb:b<=100):dw [.list os,.list ms,.list ss]=.ok ⟨.leaf,.bool (isW os ms ss)⟩:=by
 have lo:=h.lo
 have lm:=h.lm
 have ls:=h.ls
 refine bj ?_
 refine az (fx (dS (ar (aj rfl) ag) rfl) rfl (by simp [bO])) ?_
 have hif:(lV (bo aw (aE jX (ae 3) (eK (.int 1)))) (lV (bo aw (aE qN (ae 3) (eK dA))) (lV (bo aw (aE iw (cX bZ (aa (ae 1) af)) (ae 3))) (bo aw (aE iw (cX bZ (aa (ae 2) af)) (ae 3)))))) [KD (.list os),KD (.list ms),KD (.list ss),KD (.int (os.length:Nat)),none,none]
   = .ok (F8 os ms ss) [KD (.list os),KD (.list ms),KD (.list ss),KD (.int (os.length:Nat)),none,none]:=
  uC (dt (aB (aj rfl) aK rfl)) (uC (dt (aB (aj rfl) aK rfl)) (uC (dt (aB (dS (ar (aj rfl) ag) rfl) (aj rfl) ne_int)) (dt (aB (dS (ar (aj rfl) ag) rfl) (aj rfl) ne_int))))
 cases hbad:F8 os ms ss with
 | true=>
  rw [hbad] at hif;unfold isW;rw [hbad];exact yO (bU hif (fun _=>aW aK rfl) nofun)
 | false=>
  rw [hbad] at hif;refine az (bU hif nofun (fun _=>rfl)) ?_
  have c1:aG .leaf 4 (bA (ae 0)) aO (aE (eA false) (ae 4) (eK b7)) [KD (.list os),KD (.list ms),KD (.list ss),KD (.int (os.length:Nat)),none,none]
    = .ok ⟨.lst .leaf,.list (os.map fun d=>.bool (DM d))⟩ [KD (.list os),KD (.list ms),KD (.list ss),KD (.int (os.length:Nat)),none,none]:=by
   refine BF (f:=fun d=>⟨.leaf,.bool (DM d)⟩) (cM (aj rfl) rfl) (by simp) rfl (by omega) fun d hd=>⟨?_,rfl⟩
   obtain ⟨i,rfl⟩:=h.o d hd;exact aB (aj rfl) aK DJ
  have c2:aG .leaf 5 (bA (ae 1)) aO (ah 1 cR (aa (ae 5) af)) [KD (.list os),KD (.list ms),KD (.list ss),KD (.int (os.length:Nat)),none,none]
    = .ok ⟨.lst .leaf,.list (ms.map fun d=>.bool (An d))⟩ [KD (.list os),KD (.list ms),KD (.list ss),KD (.int (os.length:Nat)),none,none]:=by
   refine BF (f:=fun d=>⟨.leaf,.bool (An d)⟩) (cM (aj rfl) rfl) (by simp) rfl (by omega) fun d hd=>⟨?_,rfl⟩
   obtain ⟨xs,rfl,hx,hl⟩:=h.m d hd;exact bR (ar (aj rfl) ag) (iC hx (by omega)) rfl rfl
  have c3:aG .leaf 5 (bA (ae 2)) aO (ah 2 cQ (aa (ae 5) (aa (ae 3) af))) [KD (.list os),KD (.list ms),KD (.list ss),KD (.int (os.length:Nat)),none,none]
    = .ok ⟨.lst .leaf,.list (ss.map fun d=>.bool (FO os.length d))⟩ [KD (.list os),KD (.list ms),KD (.list ss),KD (.int (os.length:Nat)),none,none]:=by
   refine BF (f:=fun d=>⟨.leaf,.bool (FO os.length d)⟩) (cM (aj rfl) rfl) (by simp) rfl (by omega) fun d hd=>⟨?_,rfl⟩
   obtain ⟨xs,rfl,hx,hl⟩:=h.s d hd;exact bR (ar (aj rfl) (ar (aj rfl) ag)) (iA hx (by omega)) rfl rfl
  have t1:=uD (lU (dS (ar c1 ag) BC))
  cases ho:os.all DM with
  | false=>
   rw [ho] at t1;unfold isW;rw [ho,Bool.false_and,Bool.and_false];exact yO (bU t1 (fun _=>aW aK rfl) nofun)
  | true=>
   rw [ho] at t1;refine az (bU t1 nofun (fun _=>rfl)) ?_
   unfold isW;rw [hbad,ho,Bool.not_false,Bool.true_and,Bool.true_and];exact aW (v_and (dS (ar c2 ag) BC) (dS (ar c3 ag) BC)) rfl
theorem AS {xs:List D} (h:shaped (.list xs)=true):eC (.list xs) (.list [])=some (.bool (decide (xs.length=0))):=by
 unfold eC;have h2:shaped (.list [])=true:=by decide +kernel
 rw [h,h2,Bool.and_self,if_pos rfl]
 cases xs with
 | nil=>rfl
 | cons a r=>rfl
theorem EU {xs:List D} (h:eE xs):shaped (.list xs)=true:=by
 have c:PyData.canLayAll0 xs=true/\PyData.depthAll xs=0:=by
  induction xs with
  | nil=>exact ⟨rfl,rfl⟩
  | cons a r ih=>
   obtain ⟨n,rfl⟩:=h a mem_cons_self;have q:=ih fun x hx=>h x (Ku _ hx)
   simp [PyData.canLayAll0,PyData.canLay0,PyData.depthAll,PyData.depth,q.1,q.2]
 simp [shaped,PyData.canLay0,PyData.depth,c.1,c.2]
theorem lt_int:jX (.int a) (.int b)=some (.bool (decide (a<b))):=rfl
theorem wW:mP (.int a) (.int b)=some (.bool (decide (b<=a))):=rfl
theorem nr:aX (.int a) (.int b)=some (.int (a+b)):=rfl
theorem dk (h:0<b):bS (.int a) (.int b)=some (.int (a % b)):=by
 show (if xt a b then _ else _)=_
 rw [if_pos (by unfold xt;simpa using h)]
theorem oW (h:0<b) (h2:b<1073741824):gp (.int a) (.int b)=some (.int (a / b)):=by
 show (if xu a b then _ else _)=_
 rw [if_pos (by unfold xu;simp [h,h2])]
theorem yn (h:-1000000000000<b) (h2:b<1000000000000):lA (.int a) (.int b)=some (.int (a*b)):=by
 show (if qB a b then _ else _)=_
 rw [if_pos (by unfold qB;simp only [Bool.or_eq_true,Bool.and_eq_true,decide_eq_true_eq];right;omega)]
theorem tu (h:-1000000000000<a) (h2:a<1000000000000):lA (.int a) (.int b)=some (.int (a*b)):=by
 show (if qB a b then _ else _)=_
 rw [if_pos (by unfold qB;simp only [Bool.or_eq_true,Bool.and_eq_true,decide_eq_true_eq];left;omega)]
theorem Dh (h:0<=b) (h2:b<=100):wZ (.int 10) (.int b)=some (.int (10 ^ b.toNat)):=by
 show (if xr 10 b then _ else _)=_
 rw [if_pos (by unfold xr;simp only [Bool.and_eq_true,decide_eq_true_eq];exact ⟨⟨h,by omega⟩,by decide⟩)]
theorem xS {xs:List D} (h:eE xs) {k:Int} (hk:0<=k):∃c,ax [.list xs,.int k]=.ok ⟨.leaf,.int c⟩:=by
 have t:bo aw (aE jX (ae 1) (cX bZ (aa (ae 0) af))) [KD (.list xs),KD (.int k)]=.ok (decide (k<(xs.length:Int))) [KD (.list xs),KD (.int k)]:=
  dt (aB (aj rfl) (dS (ar (aj rfl) ag) rfl) lt_int)
 cases hlt:decide (k<(xs.length:Int)) with
 | true=>
  rw [hlt] at t;have hl:=of_decide_eq_true hlt
  have hk2:k.toNat<xs.length:=by omega
  obtain ⟨c,hc⟩:=h _ (getD_mem hk2);have g:=EI hk2
  rw [hc] at g;exact ⟨c,bj (yO (bU t (fun _=>aW (xN (aj rfl) (aj rfl) (DH hk hl) g rfl) rfl) nofun))⟩
 | false=>
  rw [hlt] at t;exact ⟨0,bj (az (bU t nofun (fun _=>rfl)) (aW aK rfl))⟩
theorem G6 {k:Int} (hk:0<=k) (hk2:k<=1000) (hb:1<=b) (hb2:b<=1000):∃r,au [.int c,.int k,.int b]=.ok ⟨.leaf,.int r⟩/\0<=r/\r<b:=by
 have t:bo aw (aE mP (ae 0) (aE wZ (eK (.int 10)) (eK (.int 18)))) [KD (.int c),KD (.int k),KD (.int b),none,none,none]=.ok (decide (10 ^ (18:Int).toNat<=c)) [KD (.int c),KD (.int k),KD (.int b),none,none,none]:=
  dt (aB (aj rfl) (aB aK aK (Dh (by omega) (by omega))) wW)
 cases hge:decide (10 ^ (18:Int).toNat<=c) with
 | true=>
  rw [hge] at t;obtain ⟨Γ',e,l,x,hΓ⟩:=G9 (P:=fun _ Γ=>∃l x,Γ=[KD (.int c),KD (.int k),KD (.int b),none,KD (.int l),x]) (i:=5) (body:=aP false 4 (aE gp (ae 4) (ae 2))) (b6 0 k.toNat) 0
   [KD (.int c),KD (.int k),KD (.int b),none,KD (.int c),none] ⟨c,none,rfl⟩ (fun m d Γ hd _ _ ⟨l,x,hΓ⟩=>by
    subst hΓ;refine ⟨by simp,_,fx (aB (aj rfl) (aj rfl) (oW (by omega) (by omega))) rfl (by simp),_,_,rfl⟩)
  subst hΓ;exact ⟨_,bj (yO (bU t (fun _=>az (fx (aj rfl) rfl (by simp)) (az (qU (qV (k:=k) (ar (aj rfl) ag) rfl (by omega) (by omega)) e) (aW (aB (aj rfl) (aj rfl) (dk (by omega))) rfl))) nofun)),Int.emod_nonneg _ (by omega),Int.emod_lt_of_pos _ (by omega)⟩
 | false=>
  rw [hge] at t;have m1:∀x:Int,0<=x % 2147483647/\x % 2147483647<2147483647:=fun x=>⟨Int.emod_nonneg _ (by omega),Int.emod_lt_of_pos _ (by omega)⟩
  refine ⟨_,bj (az (bU t nofun (fun _=>rfl)) (az (fx (aB (aB (aB (aB (aB (aj rfl) aK (dk (by omega))) (aB aK (aj rfl) (tu (by omega) (by omega))) nr) aK nr) aK (yn (by omega) (by omega))) aK (dk (by omega))) rfl (by simp [bO]))
   (az (fx (aB (aB (aB (aB (aj rfl) (aj rfl) (tu ?_ ?_)) (aB aK (aj rfl) (tu (by omega) (by omega))) nr) aK nr) aK (dk (by omega))) rfl (by simp [bO]))
   (aW (aB (aB (aB (aB (aj rfl) aK (yn (by omega) (by omega))) aK (dk (by omega))) aK (oW (by omega) (by omega))) (aj rfl) (dk (by omega))) rfl)))),Int.emod_nonneg _ (by omega),Int.emod_lt_of_pos _ (by omega)⟩
  ·exact Int.lt_of_lt_of_le (by omega) (m1 _).1
  ·exact Int.lt_trans (m1 _).2 (by omega)
noncomputable def ff (c k b:Int):Int:=match au [.int c,.int k,.int b] with
 | .ok ⟨_,.int r⟩=>r
 | _=>0
theorem BB {k:Int} (hk:0<=k) (hk2:k<=1000) (hb:1<=b) (hb2:b<=1000):au [.int c,.int k,.int b]=.ok ⟨.leaf,.int (ff c k b)⟩:=by
 obtain ⟨r,e,_⟩:=G6 (c:=c) hk hk2 hb hb2
 unfold ff;rw [e]
theorem EH {k:Int} (hk:0<=k) (hk2:k<=1000) (hb:1<=b) (hb2:b<=1000):0<=ff c k b/\ff c k b<b:=by
 obtain ⟨r,e,h⟩:=G6 (c:=c) hk hk2 hb hb2
 unfold ff;rw [e];exact h
noncomputable def abc (d:D):D:=match d with
 | .int k=>(match eD [97,98,99] k with
  | some c=>.str ⟨#[c]⟩
  | none=>.none)
 | _=>.none
theorem sZ {c:Nat} (h:c<1000):PyData.strOk ⟨#[c]⟩=true:=by
 unfold PyData.strOk;simp
 omega
theorem xy:(Str.ofString "abc").cps.toList=[97,98,99]:=by decide +kernel
theorem xx:(Str.ofString "abc").length<=sizeLine:=by decide +kernel
theorem uK {k:Nat} (hk:k<3):∃c,c<1000/\eD (Str.ofString "abc").cps.toList (k:Int)=some c/\abc (.int k)=.str ⟨#[c]⟩:=by
 rw [xy];match k,hk with
 | 0,_=>exact ⟨97,by omega,rfl,rfl⟩
 | 1,_=>exact ⟨98,by omega,rfl,rfl⟩
 | 2,_=>exact ⟨99,by omega,rfl,rfl⟩
noncomputable abbrev eW:FS:=(aI (aP false 8 (ah 2 ax (aa (ae 0) (aa (aE aX (aE aX (ae 1) (eK (.int 1))) (ae 7)) af))))
  (aI (jY 4 (ah 3 au (aa (ae 8) (aa (eK (.int 0)) (aa (eK (.int 2)) af)))))
  (aI (jY 5 (aG .leaf 11 (gm (aa (eK (.int 3)) af)) (bo aw (aE eC (ah 3 au (aa (ae 8) (aa (aE aX (eK (.int 1)) (ae 11)) (aa (eK (.int 2)) af)))) (eK (.int 1)))) (ak (eK (.str "abc")) (ae 11))))
  (aI (aP false 9 (aG .leaf 10 (gm (aa (ae 3) af)) (bo aw (aE eC (ah 3 au (aa (ae 8) (aa (aE aX (eK (.int 4)) (ae 10)) (aa (aE aX (eK (.int 2)) (cX uc (aa (aE qN (ae 3) (eK (.int 3))) af))) af)))) (eK (.int 1)))) (ae 10)))
  (aI (fz (bo aw (aE eC (ae 9) (bz .leaf af))) (aP false 9 (bz .leaf (aa (ah 3 au (aa (ae 8) (aa (aE aX (eK (.int 4)) (ae 3)) (aa (ae 3) af)))) af))) bt)
  (jY 6 (ae 9)))))))
theorem rZ (h:ts.Pairwise (· < ·)):dY (ts.map .int)=true:=by
 unfold dY;rw [all_eq_true];intro d hd;obtain ⟨k,hk,rfl⟩:=xP hd;rw [length_map] at hk;have h1:k<ts.length:=by omega
 have h2:k+1<ts.length:=by omega
 unfold yo;dsimp only;rw [show (1+(k:Int)-1).toNat=k by omega,show (1+(k:Int)).toNat=k+1 by omega]
 rw [Kt,Kt,getElem?_map,getElem?_map,Ks h1,Ks h2];have:=List.pairwise_iff_getElem.mp h k (k+1) h1 h2 (by omega)
 show decide (ts[k]<ts[k+1])=true
 exact decide_eq_true this
structure Gw (N:Int) (n:Nat) (os ms ss:List D):Prop where
 lo:os.length=n
 lm:ms.length=n
 ls:ss.length=n
 o:∀a∈os,a=.int 0\/a=.int 1
 m:∀r∈ms,∃xs,r=.list xs/\jS xs/\xs.length<=30/\An r=true
 s:∀r∈ss,∃ts:List Int,r=.list (ts.map .int)/\ts.length<=30/\ts≠[]/\(∀t∈ts,0<=t/\t<N)/\ts.Pairwise (· < ·)
theorem B7:eE (ts.map .int):=fun a ha=>by
 obtain ⟨n,_,e⟩:=List.mem_map.mp ha;exact ⟨n,e.symm⟩
theorem Gw.wk {N:Int} {b:Nat} (h:Gw N n os ms ss) (hb:n<=b):Wk b os ms ss:=
 ⟨fun a ha=>(h.o a ha).elim (fun e=>⟨0,e⟩) fun e=>⟨1,e⟩,fun r hr=>let ⟨xs,e,a,b,_⟩:=h.m r hr;⟨xs,e,a,b⟩,fun r hr=>let ⟨ts,e,a,_⟩:=h.s r hr;⟨_,e,B7,by rw [length_map];exact a⟩,by rw [h.lo];exact hb,by rw [h.lm];exact hb,by rw [h.ls];exact hb⟩
theorem Gw.isW {n:Nat} {os ms ss:List D} (h:Gw (n:Int) n os ms ss) (h1:1<=n) (h24:n<=24):isW os ms ss=true:=by
 unfold KC.isW F8;rw [h.lo,h.lm,h.ls];have e1:decide ((n:Int)<1)=false:=decide_eq_false (by omega)
 have e2:decide ((24:Int)<n)=false:=decide_eq_false (by omega)
 rw [e1,e2];simp only [beq_self_eq_true,Bool.not_true,Bool.or_self,Bool.not_false,Bool.true_and,Bool.and_eq_true,all_eq_true]
 refine ⟨fun a ha=>?_,fun r hr=>?_,fun r hr=>?_⟩
 ·rcases h.o a ha with rfl | rfl<;>rfl
 ·obtain ⟨xs,_,_,_,e⟩:=h.m r hr
  exact e
 ·obtain ⟨ts,rfl,h2,h3,h4,h5⟩:=h.s r hr
  unfold FO;simp only [Bool.and_eq_true,decide_eq_true_eq,length_map,all_eq_true]
  refine ⟨by cases ts with | nil=>exact absurd rfl h3 | cons a r=>simp,fun a ha=>?_,rZ h5⟩
  obtain ⟨t,ht,rfl⟩:=List.mem_map.mp ha;have:=h4 t ht
  unfold inR;simp only [Bool.and_eq_true,decide_eq_true_eq]
  exact this
theorem II (c0 c1 c2:Bool):An (.list (((if c0 then [PyData.str ⟨#[97]⟩] else [])++((if c1 then [PyData.str ⟨#[98]⟩] else [])++(if c2 then [PyData.str ⟨#[99]⟩] else [])))))=true:=by
 cases c0<;>cases c1<;>cases c2<;>decide +kernel
theorem IZ (c:D->Bool):((b6 0 3).filter c).map abc=((if c (.int 0) then [PyData.str ⟨#[97]⟩] else [])++((if c (.int 1) then [PyData.str ⟨#[98]⟩] else [])++(if c (.int 2) then [PyData.str ⟨#[99]⟩] else []))):=by
 have e:b6 0 3=[.int 0,.int 1,.int 2]:=rfl
 rw [e];simp only [filter_cons,List.filter_nil]
 cases c (.int 0)<;>cases c (.int 1)<;>cases c (.int 2)<;>rfl
theorem zo (n:Nat) (c:D->Bool):∃ts:List Int,((b6 0 n).filter c).map (fun d=>d)=ts.map .int/\(∀t∈ts,0<=t/\t<(n:Int))/\ts.Pairwise (· < ·)/\ts.length<=n:=by
 refine ⟨((List.range n).map fun i=>(0:Int)+(i:Nat)).filter fun i=>c (.int i),?_,fun t ht=>?_,?_,?_⟩
 ·rw [List.map_id']
  unfold b6;rw [show (fun i:Nat=>PyData.int (0+(i:Int)))=(PyData.int∘fun i:Nat=>(0:Int)+(i:Nat)) from rfl,<-map_map,List.filter_map]
  rfl
 ·obtain ⟨h1,_⟩:=List.mem_filter.mp ht
  obtain ⟨i,hi,rfl⟩:=List.mem_map.mp h1;rw [mem_range] at hi;omega
 ·refine List.Pairwise.filter _ ?_
  rw [pairwise_map];exact List.pairwise_lt_range.imp fun h=>by omega
 ·refine Nat.le_trans (length_filter_le _ _) ?_
  simp
theorem m5 {xs:List D} {many:Int} {x8 x9:Option PV} (hx:eE xs) (ha:0<=at') (hm:1<=many) (hm2:many<=24) (h:Gw many n os ms ss) (hn:n<=30) {r:Nat} :
  ∃os' ms' ss' x8' x9',eW [KD (.list xs),KD (.int at'),KD (.int lim),KD (.int many),some ⟨.lst .leaf,.list os⟩,some ⟨.lst .leaf,.list ms⟩,some ⟨.lst .leaf,.list ss⟩,KD (.int (r:Nat)),x8,x9,none,none]
   = .nx [KD (.list xs),KD (.int at'),KD (.int lim),KD (.int many),some ⟨.lst .leaf,.list os'⟩,some ⟨.lst .leaf,.list ms'⟩,some ⟨.lst .leaf,.list ss'⟩,KD (.int (r:Nat)),x8',x9',none,none]/\Gw many (n+1) os' ms' ss':=by
 obtain ⟨c,hc⟩:=xS hx (k:=at'+1+(r:Int)) (by omega)
 have lo:=h.lo
 have lm:=h.lm
 have ls:=h.ls
 have c5:∀(Γ:Ev),Γ.length=12->Γ[8]?=some (KD (.int c))->aG .leaf 11 (gm (aa (eK (.int 3)) af)) (bo aw (aE eC (ah 3 au (aa (ae 8) (aa (aE aX (eK (.int 1)) (ae 11)) (aa (eK (.int 2)) af)))) (eK (.int 1)))) (ak (eK (.str "abc")) (ae 11)) Γ
   = .ok ⟨.lst .leaf,.list (((b6 0 3).filter fun d=>match d with | .int k=>ff c (1+k) 2==1 | _=>false).map fun d=>abc d)⟩ Γ:=fun Γ hl h8=>by
  refine Hy (c:=fun d=>match d with | .int k=>ff c (1+k) 2==1 | _=>false) (f:=fun d=>⟨.leaf,abc d⟩) (st:=true) (qV (k:=3) (ar aK ag) rfl (by omega) (by omega)) (by omega) rfl (by rw [BE];omega) (fun d hd=>?_) fun d hd _=>?_
  ·obtain ⟨k,hk,rfl⟩:=xP hd
   have g11:(Γ.set 11 (KD (.int (0+(k:Int)))))[11]?=some (KD (.int (0+(k:Int)))):=by rw [getElem?_set_self (by omega)]
   have g8:(Γ.set 11 (KD (.int (0+(k:Int)))))[8]?=some (KD (.int c)):=by rw [getElem?_set_ne (by omega)];exact h8
   exact dt (aB (bR (ar (aj g8) (ar (aB aK (aj g11) nr) (ar aK ag))) (BB (by omega) (by omega) (by omega) (by omega)) rfl rfl) aK eq_int)
  ·obtain ⟨k,hk,rfl⟩:=xP hd
   have g11:(Γ.set 11 (KD (.int (0+(k:Int)))))[11]?=some (KD (.int (0+(k:Int)))):=by rw [getElem?_set_self (by omega)]
   obtain ⟨z,hz,e1,e2⟩:=uK hk;rw [Int.zero_add] at g11 ⊢;rw [e2];exact ⟨y3 aK (aj g11) xx e1,rfl⟩
 generalize hM:(((b6 0 3).filter fun d=>match d with | .int k=>ff c (1+k) 2==1 | _=>false).map fun d=>abc d)=M at c5
 have rM:jS M/\M.length<=30/\An (.list M)=true:=by
  refine ⟨?_,?_,?_⟩
  ·rw [<-hM]
   intro a ha;obtain ⟨d,hd,rfl⟩:=List.mem_map.mp ha;obtain ⟨k,hk,rfl⟩:=xP (List.mem_filter.mp hd).1;obtain ⟨z,hz,e1,e2⟩:=uK hk;rw [Int.zero_add,e2];exact ⟨_,rfl,sZ hz⟩
  ·rw [<-hM,length_map]
   refine Nat.le_trans (length_filter_le _ _) ?_
   rw [BE];omega
  ·rw [<-hM]
   have:=IZ (fun d=>match d with | .int k=>ff c (1+k) 2==1 | _=>false)
   rw [show (fun d=>abc d)=abc from rfl,this]
   exact II _ _ _
 have c6:∀(Γ:Ev),Γ.length=12->Γ[8]?=some (KD (.int c))->Γ[3]?=some (KD (.int many))->aG .leaf 10 (gm (aa (ae 3) af)) (bo aw (aE eC (ah 3 au (aa (ae 8) (aa (aE aX (eK (.int 4)) (ae 10)) (aa (aE aX (eK (.int 2)) (cX uc (aa (aE qN (ae 3) (eK (.int 3))) af))) af)))) (eK (.int 1)))) (ae 10) Γ
   = .ok ⟨.lst .leaf,.list (((b6 0 many.toNat).filter fun d=>match d with | .int k=>ff c (4+k) (2+(if decide (3<many) then 1 else 0))==1 | _=>false).map fun d=>d)⟩ Γ:=fun Γ hl h8 h3=>by
  refine Hy (c:=fun d=>match d with | .int k=>ff c (4+k) (2+(if decide (3<many) then 1 else 0))==1 | _=>false) (f:=fun d=>⟨.leaf,d⟩) (st:=true) (qV (k:=many) (ar (aj h3) ag) rfl (by omega) (by omega)) (by omega) rfl (by rw [BE];omega) (fun d hd=>?_) fun d hd _=>?_
  ·obtain ⟨k,hk,rfl⟩:=xP hd
   have g10:(Γ.set 10 (KD (.int (0+(k:Int)))))[10]?=some (KD (.int (0+(k:Int)))):=by rw [getElem?_set_self (by omega)]
   have g8:(Γ.set 10 (KD (.int (0+(k:Int)))))[8]?=some (KD (.int c)):=by rw [getElem?_set_ne (by omega)];exact h8
   have g3:(Γ.set 10 (KD (.int (0+(k:Int)))))[3]?=some (KD (.int many)):=by rw [getElem?_set_ne (by omega)];exact h3
   have b1:(1:Int)<=2+(if decide (3<many) then 1 else 0)/\(2:Int)+(if decide (3<many) then 1 else 0)<=1000:=by split<;>omega
   exact dt (aB (bR (ar (aj g8) (ar (aB aK (aj g10) nr) (ar (aB aK (dS (ar (aB (aj g3) aK rfl) ag) rfl) nr) ag))) (BB (by omega) (by omega) b1.1 b1.2) rfl rfl) aK eq_int)
  ·obtain ⟨k,hk,rfl⟩:=xP hd
   exact ⟨aj (by rw [getElem?_set_self (by omega)]),rfl⟩
 obtain ⟨ts,hT,hts1,hts2,hts3⟩:=zo many.toNat (fun d=>match d with | .int k=>ff c (4+k) (2+(if decide (3<many) then 1 else 0))==1 | _=>false)
 rw [hT] at c6;have fin:∀(Γ:Ev) (T:List Int),(T.length<=30/\T≠[]/\(∀t∈T,0<=t/\t<many)/\T.Pairwise (· < ·))->Γ=[KD (.list xs),KD (.int at'),KD (.int lim),KD (.int many),some ⟨.lst .leaf,.list (os++[.int (ff c 0 2)])⟩,some ⟨.lst .leaf,.list (ms++[.list M])⟩,some ⟨.lst .leaf,.list ss⟩,KD (.int (r:Nat)),KD (.int c),KD (.list (T.map .int)),none,none] ->
   ∃os' ms' ss' x8' x9',jY 6 (ae 9) Γ=.nx [KD (.list xs),KD (.int at'),KD (.int lim),KD (.int many),some ⟨.lst .leaf,.list os'⟩,some ⟨.lst .leaf,.list ms'⟩,some ⟨.lst .leaf,.list ss'⟩,KD (.int (r:Nat)),x8',x9',none,none]/\Gw many (n+1) os' ms' ss':=fun Γ T hT2 hΓ=>by
  subst hΓ;refine ⟨os++[.int (ff c 0 2)],ms++[.list M],ss++[.list (T.map .int)],_,_,Fi rfl (aj rfl) rfl (by omega),by simp;omega,by simp;omega,by simp;omega,fun a ha=>?_,fun a ha=>?_,fun a ha=>?_⟩
  ·rcases Kq ha with z | z
   ·exact h.o a z
   ·have:=EH (c:=c) (k:=0) (b:=2) (by omega) (by omega) (by omega) (by omega)
    rw [List.mem_singleton.mp z];rcases (by omega:ff c 0 2=0\/ff c 0 2=1) with e | e
    ·exact .inl (by rw [e])
    ·exact .inr (by rw [e])
  ·rcases Kq ha with z | z
   ·exact h.m a z
   ·exact ⟨M,List.mem_singleton.mp z,rM.1,rM.2.1,by rw [List.mem_singleton.mp z];exact rM.2.2⟩
  ·rcases Kq ha with z | z
   ·exact h.s a z
   ·exact ⟨T,List.mem_singleton.mp z,hT2⟩
 have e1:=fx (i:=8) (bR (fl:=aa (ae 0) (aa (aE aX (aE aX (ae 1) (eK (.int 1))) (ae 7)) af)) (Γ:=[KD (.list xs),KD (.int at'),KD (.int lim),KD (.int many),some ⟨.lst .leaf,.list os⟩,some ⟨.lst .leaf,.list ms⟩,some ⟨.lst .leaf,.list ss⟩,KD (.int (r:Nat)),x8,x9,none,none]) (ar (aj rfl) (ar (aB (aB (aj rfl) aK nr) (aj rfl) nr) ag)) hc rfl rfl) rfl (by simp)
 have e2:jY 4 (ah 3 au (aa (ae 8) (aa (eK (.int 0)) (aa (eK (.int 2)) af)))) [KD (.list xs),KD (.int at'),KD (.int lim),KD (.int many),some ⟨.lst .leaf,.list os⟩,some ⟨.lst .leaf,.list ms⟩,some ⟨.lst .leaf,.list ss⟩,KD (.int (r:Nat)),KD (.int c),x9,none,none]=_:=
  Fi rfl (bR (ar (aj rfl) (ar aK (ar aK ag))) (BB (by omega) (by omega) (by omega) (by omega)) rfl rfl) rfl (by omega)
 have e3:=Fi (i:=5) (Γ:=[KD (.list xs),KD (.int at'),KD (.int lim),KD (.int many),some ⟨.lst .leaf,.list (os++[.int (ff c 0 2)])⟩,some ⟨.lst .leaf,.list ms⟩,some ⟨.lst .leaf,.list ss⟩,KD (.int (r:Nat)),KD (.int c),x9,none,none]) rfl (c5 _ rfl rfl) rfl (by omega)
 have e4:=fx (i:=9) (Γ:=[KD (.list xs),KD (.int at'),KD (.int lim),KD (.int many),some ⟨.lst .leaf,.list (os++[.int (ff c 0 2)])⟩,some ⟨.lst .leaf,.list (ms++[.list M])⟩,some ⟨.lst .leaf,.list ss⟩,KD (.int (r:Nat)),KD (.int c),x9,none,none]) (c6 _ rfl rfl rfl) rfl (by simp)
 have t:bo aw (aE eC (ae 9) (bz .leaf af)) [KD (.list xs),KD (.int at'),KD (.int lim),KD (.int many),some ⟨.lst .leaf,.list (os++[.int (ff c 0 2)])⟩,some ⟨.lst .leaf,.list (ms++[.list M])⟩,some ⟨.lst .leaf,.list ss⟩,KD (.int (r:Nat)),KD (.int c),KD (.list (ts.map .int)),none,none]
   = .ok (decide ((ts.map PyData.int).length=0)) _:=dt (aB (aj rfl) (qI (s:=.leaf) ag rfl rfl rfl) (AS (EU B7)))
 cases hz:decide ((ts.map PyData.int).length=0) with
 | true=>
  rw [hz] at t;obtain ⟨o',m',s',y8,y9,f1,f2⟩:=fin _ [ff c (4+many) many] ⟨by simp,by simp,fun t ht=>by rw [List.mem_singleton.mp ht];exact EH (by omega) (by omega) (by omega) (by omega),List.pairwise_singleton _ _⟩ rfl
  exact ⟨o',m',s',y8,y9,az e1 (az e2 (az e3 (az e4 (az (bU t (fun _=>fx (qI (s:=.leaf) (ar (bR (ar (aj rfl) (ar (aB aK (aj rfl) nr) (ar (aj rfl) ag))) (BB (by omega) (by omega) (by omega) (by omega)) rfl rfl) ag) rfl rfl rfl) rfl (by simp)) nofun) f1)))),f2⟩
 | false=>
  rw [hz] at t;obtain ⟨o',m',s',y8,y9,f1,f2⟩:=fin _ ts ⟨by omega,(fun z=>by rw [z] at hz;cases hz),(fun t ht=>by have:=hts1 t ht;omega),hts2⟩ rfl
  exact ⟨o',m',s',y8,y9,az e1 (az e2 (az e3 (az e4 (az (bU t nofun (fun _=>rfl)) f1)))),f2⟩
noncomputable abbrev W3:Sh:=.tup [.lst .leaf,.lst .leaf,.lst .leaf]
noncomputable abbrev fy (os ms ss:List D):D:=.tuple [.list os,.list ms,.list ss]
theorem qm {xs:List D} (hx:eE xs) (ha:0<=at') (hl:1<=lim) (hl2:lim<=24):∃(n:Nat) (os ms ss:List D),dy [.list xs,.int at',.int lim]=.ok ⟨W3,fy os ms ss⟩/\Gw (n:Int) n os ms ss/\1<=n/\(n:Int)<=lim:=by
 obtain ⟨c,hc⟩:=xS hx (k:=at') ha
 have b0:0<=c % lim:=Int.emod_nonneg _ (by omega)
 have b1:c % lim<lim:=Int.emod_lt_of_pos _ (by omega)
 generalize hmm:1+c % lim=many at *
 have e0:aP false 3 (aE aX (eK (.int 1)) (aE bS (ah 2 ax (aa (ae 0) (aa (ae 1) af))) (ae 2))) [KD (.list xs),KD (.int at'),KD (.int lim),none,none,none,none,none,none,none,none,none]
   = .nx [KD (.list xs),KD (.int at'),KD (.int lim),KD (.int many),none,none,none,none,none,none,none,none]:=by
  rw [<-hmm];exact fx (aB aK (aB (bR (ar (aj rfl) (ar (aj rfl) ag)) hc rfl rfl) (aj rfl) (dk (by omega))) nr) rfl (by simp)
 obtain ⟨Γ',e,os,ms,ss,x7,x8,x9,hΓ,hw⟩:=G9 (P:=fun n Γ=>∃os ms ss x7 x8 x9,Γ=[KD (.list xs),KD (.int at'),KD (.int lim),KD (.int many),some ⟨.lst .leaf,.list os⟩,some ⟨.lst .leaf,.list ms⟩,some ⟨.lst .leaf,.list ss⟩,x7,x8,x9,none,none]/\Gw many n os ms ss) (i:=7) (body:=eW) (b6 0 many.toNat) 0
  [KD (.list xs),KD (.int at'),KD (.int lim),KD (.int many),some ⟨.lst .leaf,.list []⟩,some ⟨.lst .leaf,.list []⟩,some ⟨.lst .leaf,.list []⟩,none,none,none,none,none] ⟨[],[],[],none,none,none,rfl,rfl,rfl,rfl,fun a ha=>(nomatch ha),fun a ha=>(nomatch ha),fun a ha=>(nomatch ha)⟩ (fun m d Γ hd h1 h2 ⟨os,ms,ss,x7,x8,x9,hΓ,hw⟩=>by
   subst hΓ;obtain ⟨k,hk,rfl⟩:=xP hd;rw [BE] at h2;rw [Int.zero_add];obtain ⟨os',ms',ss',y8,y9,f1,f2⟩:=m5 (at':=at') (lim:=lim) (many:=many) (x8:=x8) (x9:=x9) hx ha (by omega) (by omega) hw (by omega) (r:=k)
   exact ⟨by simp,_,f1,os',ms',ss',_,y8,y9,rfl,f2⟩)
 subst hΓ;rw [BE,Nat.zero_add] at hw;have en:((many.toNat:Nat):Int)=many:=by omega
 refine ⟨many.toNat,os,ms,ss,bj (az e0 (az (xO (qI (s:=.leaf) ag rfl rfl rfl) rfl (by simp)) (az (xO (qI (s:=.leaf) ag rfl rfl rfl) rfl (by simp)) (az (xO (qI (s:=.leaf) ag rfl rfl rfl) rfl (by simp)) (az (qU (qV (k:=many) (ar (aj rfl) ag) rfl (by omega) (by omega)) e) (aW (de (ar (yN (p:=⟨.lst .leaf,.list os⟩) rfl) (ar (yN (p:=⟨.lst .leaf,.list ms⟩) rfl) (ar (yN (p:=⟨.lst .leaf,.list ss⟩) rfl) ag))) rfl rfl) rfl)))))),by rw [en];exact hw,by omega,by omega⟩
theorem yl {ds:List D} {Γ:Ev} (h:g (bO n ds)=.nx Γ):aQ n g ds=.ok ⟨.leaf,.none⟩:=by unfold aQ;rw [h]
theorem qq {b:Nat} (h:Wk b os ms ss) (hb:b<=100) (hw:isW os ms ss=true):ay [fy os ms ss]=.ok ⟨.leaf,.none⟩:=by
 have t:jQ (bo g4 (ah 3 dw (aa (ak (ae 0) (eK (.int 0))) (aa (ak (ae 0) (eK (.int 1))) (aa (ak (ae 0) (eK (.int 2))) af))))) [KD (fy os ms ss)]=.ok (!(isW os ms ss)) [KD (fy os ms ss)]:=
  uD (lU (bR (ar (dq (j:=0) (aj rfl) aK rfl rfl rfl) (ar (dq (j:=1) (aj rfl) aK rfl rfl rfl) (ar (dq (j:=2) (aj rfl) aK rfl rfl rfl) ag))) (jH h hb) rfl rfl))
 rw [hw] at t;exact yl (bU t nofun (fun _=>rfl))
theorem tY {i:Int}:eA false (.int i) (.list (ts.map .int))=some (.bool (ts.contains i)):=by
 unfold eA;simp only [yM,EU B7,Bool.and_self,if_true]
 congr 2
 rw [Bool.eq_iff_iff];simp only [Bool.false_eq_true,if_false,any_eq_true,mem_map,contains_iff_mem]
 constructor
 ·rintro ⟨d,⟨t,ht,rfl⟩,e⟩
  rw [PyData.eqv] at e;have:t=i:=by simpa using e
  rw [<-this];exact ht
 ·intro h
  exact ⟨.int i,⟨i,h,rfl⟩,by rw [PyData.eqv];simp⟩
theorem D6 {xs:List D} (h:jS xs):PyData.canLayAll0 xs=true/\PyData.depthAll xs=0:=by
 induction xs with
 | nil=>exact ⟨rfl,rfl⟩
 | cons a r ih=>
  obtain ⟨n,rfl,hn⟩:=h a mem_cons_self;have q:=ih fun x hx=>h x (Ku _ hx)
  simp [PyData.canLayAll0,PyData.canLay0,PyData.depthAll,PyData.depth,q.1,q.2,hn]
theorem iV {i:Int}:eA true (.int i) (.list (ts.map .int))=some (.bool (!ts.contains i)):=by
 have h:=tY (ts:=ts) (i:=i)
 unfold eA at h ⊢
 simp only [yM,EU B7,Bool.and_self,if_true,Bool.false_eq_true,if_false] at h ⊢
 have h:=Option.some.inj h
 injection h with h
 rw [h]
end KC
namespace T
open PySem PySem.Spec L2
open PyProof.Rows hiding St
variable {α:Type} {b:Bool} {a:Int} {fl:FL} {fi:FI} {fe:F1} {Γ:Ev}
section
variable {Γ Γ1:Ev} {fa fb fc:F1} {fl:FL} {p:PV} {i n:Nat} {ga gb:FB} {g1 g2:FS}
@[simp] theorem Il:sizeLine=16777216:=rfl
@[simp] theorem vj {β:Type} {a:α} {e:Ev} {k:α->Ev->Out β}:(Out.ok a e).bind k=k a e:=rfl
@[simp] theorem r_k {d:D}:eK d Γ=.ok ⟨.leaf,d⟩ Γ:=rfl
@[simp] theorem JB:af Γ=.ok [] Γ:=rfl
@[simp] theorem Ic:aO Γ=.ok true Γ:=rfl
@[simp] theorem Ii:bt Γ=.nx Γ:=rfl
@[simp] theorem Iz:aa fa fl Γ=(fa Γ).bind fun p Γ1=>(fl Γ1).bind fun ps Γ2=>.ok (p::ps) Γ2:=rfl
@[simp] theorem J7 {g:D->D->Option D}:aE g fa fb Γ=(fa Γ).bind fun p Γ1=>(fb Γ1).bind fun q Γ2=>match g p.d q.d with | some d=>.ok ⟨.leaf,d⟩ Γ2 | none=>.no:=rfl
@[simp] theorem J8 {g:List D->Option D}:cX g fl Γ=(fl Γ).bind fun ps Γ'=>match g (ps.map (·.d)) with | some d=>.ok ⟨.leaf,d⟩ Γ' | none=>.no:=rfl
@[simp] theorem IB:jQ ga Γ=(ga Γ).bind fun c Γ'=>.ok (!c) Γ':=rfl
@[simp] theorem IC:gx ga gb Γ=(ga Γ).bind fun c Γ'=>if c then gb Γ' else .ok false Γ':=rfl
@[simp] theorem JH:lV ga gb Γ=(ga Γ).bind fun c Γ'=>if c then .ok true Γ' else gb Γ':=rfl
@[simp] theorem JG:qh ga fa fb Γ=(ga Γ).bind fun b Γ'=>if b then fa Γ' else fb Γ':=rfl
@[simp] theorem FR:aw (.bool b)=some b:=rfl
@[simp] theorem Iu:g4 (.bool b)=some b:=rfl
@[simp] theorem FP {xs:List D}:g4 (.list xs)=some (!xs.isEmpty):=rfl
noncomputable def FX (p:PV):PV:=match p.s with
 | .leaf=>p
 | _=>⟨.view,p.d⟩
@[simp] theorem Jx {d:D}:FX ⟨.leaf,d⟩=⟨.leaf,d⟩:=rfl
@[simp] theorem Jw {s:Sh} {d:D}:FX ⟨.lst s,d⟩=⟨.view,d⟩:=rfl
@[simp] theorem Jv {s:List Sh} {d:D}:FX ⟨.tup s,d⟩=⟨.view,d⟩:=rfl
@[simp] theorem Jt:ae i Γ=match Γ[i]? with | some (some p)=>.ok (FX p) Γ | _=>.no:=by
 unfold ae
 cases h:Γ[i]? with
 | none=>rfl
 | some o=>
  cases o with
  | none=>rfl
  | some p=>
   obtain ⟨s,d⟩:=p
   cases s<;>rfl
@[simp] theorem Ij:cz i Γ=match Γ[i]? with | some (some p)=>.ok p (Γ.set i none) | _=>.no:=rfl
@[simp] theorem IA {d:D}:coer .leaf ⟨.leaf,d⟩=true:=rfl
@[simp] theorem FU {s:Sh} {d:D}:coer .leaf ⟨.lst s,d⟩=true:=rfl
@[simp] theorem FT {s:List Sh} {d:D}:coer .leaf ⟨.tup s,d⟩=true:=rfl
@[simp] theorem FV {i:Int} {s:Sh}:coer .leaf ⟨s,.int i⟩=true:=by cases s<;>rfl
@[simp] theorem FW {s:Sh}:coer .leaf ⟨s,.bool b⟩=true:=by cases s<;>rfl
@[simp] theorem Iq:Sh.isView .leaf=false:=rfl
@[simp] theorem Ip {s:Sh}:Sh.isView (.lst s)=false:=rfl
@[simp] theorem Io {s:List Sh}:Sh.isView (.tup s)=false:=rfl
@[simp] theorem Iy {b:Int}:aX (.int a) (.int b)=some (.int (a+b)):=rfl
@[simp] theorem Iv {b:Int}:wY (.int a) (.int b)=some (.int (a-b)):=rfl
@[simp] theorem JE {b:Int}:jX (.int a) (.int b)=some (.bool (decide (a<b))):=rfl
@[simp] theorem JF {b:Int}:qN (.int a) (.int b)=some (.bool (decide (b<a))):=rfl
@[simp] theorem Iw {ds:List D}:bZ [.list ds]=some (.int ds.length):=rfl
@[simp] theorem FQ {ds:List D}:bZ [.tuple ds]=some (.int ds.length):=rfl
noncomputable def ly (p q:PV):Ev->Out PV:=ak (fun Γ=>.ok p Γ) (fun Γ=>.ok q Γ)
@[simp] theorem gM:ak fa fb Γ=(fa Γ).bind fun p Γ1=>(fb Γ1).bind fun q Γ2=>ly p q Γ2:=by
 unfold ly ak aU
 cases fa Γ with
 | ok p Γ1=>simp only [vj]
 | er c Γ1=>rfl
 | no=>rfl
@[simp] theorem nW {ds:List D} {k:Int} {s:Sh}:ly ⟨.leaf,.tuple ds⟩ ⟨s,.int k⟩ Γ=match eD ds k with | some d=>.ok ⟨.leaf,d⟩ Γ | none=>.no:=by
 unfold ly ak aU eD;simp only [vj]
 cases h:fQ ds.length k with
 | none=>rfl
 | some j=>
  simp only [Option.bind_some]
  cases h2:ds[j]? with
  | none=>rfl
  | some d=>rfl
@[simp] theorem sx {ds:List D} {k:Int} {s:Sh}:ly ⟨.leaf,.list ds⟩ ⟨s,.int k⟩ Γ=match eD ds k with | some d=>.ok ⟨.leaf,d⟩ Γ | none=>.no:=by
 unfold ly ak aU eD;simp only [vj]
 cases h:fQ ds.length k with
 | none=>rfl
 | some j=>
  simp only [Option.bind_some]
  cases h2:ds[j]? with
  | none=>rfl
  | some d=>rfl
@[simp] theorem JD {ds:List D} {k:Int} {s:Sh}:ly ⟨.view,.list ds⟩ ⟨s,.int k⟩ Γ=match eD ds k with | some d=>.ok ⟨if bB d then .leaf else .view,d⟩ Γ | none=>.no:=by
 unfold ly ak aU eD;simp only [vj]
 cases h:fQ ds.length k with
 | none=>rfl
 | some j=>
  simp only [Option.bind_some]
  cases h2:ds[j]? with
  | none=>rfl
  | some d=>rfl
@[simp] theorem yj {a:α} {r:List α}:eD (a::r) 0=some a:=by
 simp [eD,fQ]
@[simp] theorem C6 {a b:α} {r:List α}:eD (a::b::r) 1=some b:=by
 have:(1:Int)<(r.length:Int)+1+1:=by omega
 simp [eD,fQ,this]
@[simp] theorem C5 {a b c:α} {r:List α}:eD (a::b::c::r) 2=some c:=by
 have:(2:Int)<(r.length:Int)+1+1+1:=by omega
 simp [eD,fQ,this]
theorem EG {xs:List α} {k:Nat} {x:α} (h:xs[k]?=some x):eD xs (k:Int)=some x:=by
 have hk:=(Kw h).1
 have:(k:Int)<(xs.length:Int):=by omega
 simp [eD,fQ,this,h]
end
section
variable {Γ:Ev} {fa fb:F1} {i:Nat}
@[simp] theorem Ik {s:Sh}:bz s fl Γ=(fl Γ).bind fun ps Γ'=>if !s.isView&&ps.all (T.coer s)&&decide (ps.length<=sizeLine) then .ok ⟨.lst s,.list (ps.map (·.d))⟩ Γ' else .no:=rfl
@[simp] theorem Ju:cy fl Γ=(fl Γ).bind fun ps Γ'=>if ps.all tok&&decide (ps.length<=sizeLine) then .ok ⟨.tup (ps.map y7),.tuple (ps.map (·.d))⟩ Γ' else .no:=rfl
@[simp] theorem Ih {d:D}:tok ⟨.leaf,d⟩=true:=rfl
@[simp] theorem Ig {s:Sh} {d:D}:tok ⟨.lst s,d⟩=true:=rfl
@[simp] theorem Ie {s:List Sh} {d:D}:tok ⟨.tup s,d⟩=true:=rfl
@[simp] theorem JC {a:D}:cW false a .none=some (.bool (BD a)):=rfl
@[simp] theorem Im {a:D}:cW true a .none=some (.bool (!BD a)):=rfl
@[simp] theorem Ir:bA fa Γ=(fa Γ).bind fun p Γ'=>match p.d with | .list ds=>if d9 p ds then .ok ⟨ds,!p.s.isView⟩ Γ' else .no | _=>.no:=rfl
@[simp] theorem JA {d:D} {ds:List D}:d9 ⟨.leaf,d⟩ ds=true:=rfl
@[simp] theorem Jz {s:Sh} {d:D} {ds:List D}:d9 ⟨.lst s,d⟩ ds=true:=rfl
@[simp] theorem Jy {s:List Sh} {d:D} {ds:List D}:d9 ⟨.tup s,d⟩ ds=true:=rfl
theorem iI {β:Type} {c:FB} {g:FS} {G:β->Ev} {test:β->Bool} {Inv:β->Prop} {meas:β->Nat} (hc:∀b,Inv b->c (G b)=.ok (test b) (G b)) (hg:∀b,Inv b->test b=true->∃b',g (G b)=.nx (G b')/\Inv b'/\meas b'<meas b) :
  ∀(N:Nat) (b:β),Inv b->meas b<N->∃b',uY c g N (G b)=.nx (G b')/\Inv b'/\test b'=false
 | 0,b,_,h=>by omega
 | N+1,b,hi,hm=>by
  rw [uY,hc b hi]
  cases ht:test b with
  | false=>exact ⟨b,rfl,hi,ht⟩
  | true=>
   obtain ⟨b1,h1,h2,h3⟩:=hg b hi ht;obtain ⟨b',e,q⟩:=iI hc hg N b1 h2 (by omega)
   refine ⟨b',?_,q⟩
   simp only [h1]
   exact e
end
theorem Hs {α:Type} {en:α->D} {i:Nat} {fc:FB} {fe:F1} {s:Sh} {c:α->Bool} {f:α->PV} {Γ:Ev} (hΓ:Γ.set i none=Γ):∀(r:List α) (acc:List D),(∀x∈r,fc (Γ.set i (KD (en x)))=.ok (c x) (Γ.set i (KD (en x)))) ->
  (∀x∈r,c x=true->fe (Γ.set i (KD (en x)))=.ok (f x) (Γ.set i (KD (en x)))/\coer s (f x)=true)->acc.length+r.length<=sizeLine->o9 i fc fe s (r.map en) Γ acc=.ok (acc++((r.filter c).map fun x=>(f x).d)) Γ
 | [],acc,_,_,_=>by simp [o9]
 | x::r,acc,hc,he,hl=>by
  have h1:=hc x mem_cons_self
  have hl1:acc.length<sizeLine:=by simp only [length_cons] at hl;omega
  have back:(Γ.set i (KD (en x))).set i none=Γ:=by rw [set_set];exact hΓ
  rw [map_cons,o9,h1]
  cases hcd:c x with
  | false=>
   dsimp only;rw [if_pos hl1,back,Hs hΓ r acc (fun d hd=>hc d (Ku _ hd)) (fun d hd=>he d (Ku _ hd)) (by simp only [length_cons] at hl;omega)]
   rw [List.filter_cons_of_neg (by rw [hcd];exact Bool.false_ne_true)]
  | true=>
   obtain ⟨h2,h3⟩:=he x mem_cons_self hcd;dsimp only;rw [h2];dsimp only;rw [h3,decide_eq_true hl1,Bool.and_self,if_pos rfl,back,Hs hΓ r (acc++[(f x).d]) (fun d hd=>hc d (Ku _ hd)) (fun d hd=>he d (Ku _ hd)) (by simp only [length_cons,length_append,List.length_nil] at hl ⊢;omega)]
   rw [List.filter_cons_of_pos hcd,map_cons,append_assoc];rfl
theorem lE (en:α->D) (xs:List α) (c:α->Bool) (f:α->PV) {s:Sh} {i:Nat} {fc:FB} {st:Bool} (hi:fi Γ=.ok ⟨xs.map en,st⟩ Γ) (hl:i<Γ.length) (hs:s.isView=false) (hn:xs.length<=10000)
  (hc:∀x∈xs,fc (Γ.set i (KD (en x)))=.ok (c x) (Γ.set i (KD (en x)))) (he:∀x∈xs,c x=true->fe (Γ.set i (KD (en x)))=.ok (f x) (Γ.set i (KD (en x)))/\coer s (f x)=true) :
  aG s i fi fc fe Γ=.ok ⟨.lst s,.list ((xs.filter c).map fun x=>(f x).d)⟩ Γ:=by
 have hb:(10000:Nat)<=sizeLine:=by decide
 unfold aG;rw [hi];unfold Out.bind;dsimp only;rw [Hs (c:=c) (f:=f) (by rw [set_set]) xs [] (fun d hd=>by rw [set_set];exact hc d hd) (fun d hd=>by rw [set_set];exact he d hd) (by simp;omega)]
 dsimp only;rw [hs,decide_eq_true hl];simp only [Bool.not_false,Bool.and_self,if_true,nil_append,set_set]
 have:Γ.set i (Γ.getD i none)=Γ:=by
  apply yV
  rw [Kt,Ks hl];rfl
 rw [this]
theorem u5 (en:α->D) (xs:List α) (f:α->PV) {s:Sh} {i:Nat} {st:Bool} (hi:fi Γ=.ok ⟨xs.map en,st⟩ Γ) (hl:i<Γ.length) (hs:s.isView=false) (hn:xs.length<=10000)
  (he:∀x∈xs,fe (Γ.set i (KD (en x)))=.ok (f x) (Γ.set i (KD (en x)))/\coer s (f x)=true):aG s i fi aO fe Γ=.ok ⟨.lst s,.list (xs.map fun x=>(f x).d)⟩ Γ:=by
 rw [lE (fc:=aO) en xs (fun _=>true) f hi hl hs hn (fun _ _=>rfl) fun x hx _=>he x hx,List.filter_eq_self.mpr fun _ _=>rfl]
end T
namespace KC
open PySem PySem.Spec L2 T PySem.SeqAt
open PyProof.Rows hiding St
variable {t:Nat}
noncomputable abbrev rm (t:Nat):D:=.int (t:Int)
noncomputable abbrev bG (r:List Nat):D:=.list (r.map rm)
theorem vI {n:Nat}:b6 0 n=(List.range n).map rm:=by
 unfold b6;simp
theorem AC {r:List Nat}:eA false (rm t) (bG r)=some (.bool (r.contains t)):=by
 have h:=tY (ts:=r.map fun t:Nat=>(t:Int)) (i:=t)
 rw [map_map] at h;refine h.trans ?_
 congr 2
 rw [Bool.eq_iff_iff,contains_iff_mem,contains_iff_mem,mem_map];exact ⟨fun ⟨a,h1,h2⟩=>by rw [<-Int.ofNat_inj.mp h2];exact h1,fun h=>⟨t,h,rfl⟩⟩
structure Wd where
 n:Nat
 os:List D
 m:List (List Str)
 s:List (List Nat)
noncomputable def j9 (r:List Str):D:=.list (r.map .str)
noncomputable def Wd.enc (w:Wd):D:=fy w.os (w.m.map j9) (w.s.map bG)
structure Wd.Ok (w:Wd):Prop where
 g:Gw (w.n:Int) w.n w.os (w.m.map j9) (w.s.map bG)
 h1:1<=w.n
 h24:w.n<=24
 lm:w.m.length=w.n
 ls:w.s.length=w.n
 st:∀r∈w.s,r≠[]/\r.length<=30/\∀t∈r,t<w.n
 mc:∀r∈w.m,∀c∈r,PyData.strOk c=true
noncomputable def Wd.stp (w:Wd) (r:Nat):List Nat:=w.s.getD r []
noncomputable def Wd.mks (w:Wd) (r:Nat):List Str:=w.m.getD r []
theorem Wd.Ok.at2 {w:Wd} (h:w.Ok) {r:Nat} (hr:r<w.n):eD (w.s.map bG) (r:Int)=some (bG (w.stp r)):=by
 refine EG ?_
 unfold Wd.stp;rw [getElem?_map,Kt,Ks (by rw [h.ls];exact hr)]
 rfl
theorem Wd.Ok.at1 {w:Wd} (h:w.Ok) {r:Nat} (hr:r<w.n):eD (w.m.map j9) (r:Int)=some (j9 (w.mks r)):=by
 refine EG ?_
 unfold Wd.mks;rw [getElem?_map,Kt,Ks (by rw [h.lm];exact hr)]
 rfl
theorem Wd.Ok.stp_lt {w:Wd} (h:w.Ok) {r:Nat} (ht:t∈w.stp r):t<w.n:=by
 unfold Wd.stp at ht;rw [Kt] at ht
 cases e:w.s[r]? with
 | none=>rw [e] at ht;simp at ht
 | some x=>rw [e] at ht;exact (h.st x (mem_of_getElem? e)).2.2 t ht
noncomputable def letters:List Str:=["a", "b", "c", "d", "e", "f"]
structure Wd.Ok0 (w:Wd):Prop where
 lo:w.os.length=w.n
 h24:w.n<=24
 ls:w.s.length=w.n
 st:∀r∈w.s,r.length<=30/\∀t∈r,t<w.n
theorem Wd.Ok.z {w:Wd} (h:w.Ok):w.Ok0:=⟨h.g.lo,h.h24,h.ls,fun r hr=>(h.st r hr).2⟩
noncomputable def JP (cl:List Bool) (r:Nat):Bool:=cl.getD r false
theorem vz {w:Wd} (ok:w.Ok) {r:Nat}:(w.stp r).length<=10000:=by
 unfold Wd.stp;rw [Kt]
 cases e:w.s[r]? with
 | none=>simp
 | some x=>
  have:=(ok.st x (mem_of_getElem? e)).2.1
  simp only [Option.getD_some]
  omega
theorem Wd.Ok.check {w:Wd} (ok:w.Ok):ay [w.enc]=.ok ⟨.leaf,.none⟩:=qq (ok.g.wk (b:=24) ok.h24) (by omega) (ok.g.isW ok.h1 ok.h24)
end KC
namespace T
open PySem PySem.Spec L2
open PyProof.Rows hiding St
theorem i8 {α:Type} (en:α->D) {i:Nat} {body:FS} {Inv:List α->Ev->Prop} (hb:∀a r Γ,Inv (a::r) Γ->i<Γ.length/\∃Γ',body (Γ.set i (KD (en a)))=.nx Γ'/\Inv r Γ'):∀(xs:List α) (Γ:Ev),Inv xs Γ->∃Γ',dm i body (xs.map en) Γ=.nx Γ'/\Inv [] Γ'
 | [],Γ,h=>⟨Γ,rfl,h⟩
 | a::r,Γ,h=>by
  obtain ⟨hi,Γ1,h1,h2⟩:=hb a r Γ h;obtain ⟨Γ2,e,h3⟩:=i8 en hb r Γ1 h2;refine ⟨Γ2,?_,h3⟩
  rw [map_cons,dm,if_pos hi,h1];exact e
theorem Co {Γ Γ1 Γ2:Ev} {fa fb:F1} {s s':Sh} {xs ys:List D} (ha:fa Γ=.ok ⟨s,.list xs⟩ Γ1) (hb:fb Γ1=.ok ⟨s',.list ys⟩ Γ2) (h1:d9 ⟨s,.list xs⟩ xs=true) (h2:d9 ⟨s',.list ys⟩ ys=true) (hn:xs.length+ys.length<=10000):uj fa fb Γ=.ok ⟨.lst .leaf,.list (xs++ys)⟩ Γ2:=by
 have hb':(10000:Nat)<=sizeLine:=by decide
 have:xs.length+ys.length<=sizeLine:=Nat.le_trans hn hb'
 unfold uj aU;rw [ha];simp only [vj]
 rw [hb];simp only [vj,h1,h2,decide_eq_true this,Bool.and_self,if_true]
end T
namespace KC
open PySem PySem.Spec L2 T PySem.SeqAt
open PyProof.Rows hiding St
variable {n:Nat} {fa:F1}
theorem Cr {os ms ss:List D} (g:Gw (n:Int) n os ms ss) (h1:1<=n) (h24:n<=24):∃w:Wd,w.Ok/\w.enc=fy os ms ss/\w.n=n:=by
 have hm:∀l:List D,(∀r∈l,∃xs,r=.list xs/\jS xs)->∃M:List (List Str),l=M.map j9/\∀r∈M,∀c∈r,PyData.strOk c=true:=by
  have one:∀xs:List D,jS xs->∃r:List Str,xs=r.map .str/\∀c∈r,PyData.strOk c=true:=by
   intro xs;induction xs with
   | nil=>intro _;exact ⟨[],rfl,by simp⟩
   | cons a r ih=>
    intro h;obtain ⟨x,rfl,hx⟩:=h a mem_cons_self;obtain ⟨t,rfl,ht⟩:=ih fun b hb=>h b (Ku _ hb)
    exact ⟨x::t,rfl,fun c hc=>(Kr hc).elim (fun e=>by rw [e];exact hx) (ht c)⟩
  intro l;induction l with
  | nil=>intro _;exact ⟨[],rfl,by simp⟩
  | cons a r ih=>
   intro h;obtain ⟨xs,rfl,hx⟩:=h a mem_cons_self;obtain ⟨x,rfl,hx2⟩:=one xs hx;obtain ⟨M,rfl,hM⟩:=ih fun b hb=>h b (Ku _ hb)
   exact ⟨x::M,rfl,fun c hc=>(Kr hc).elim (fun e=>by rw [e];exact hx2) (hM c)⟩
 have hs:∀l:List D,(∀r∈l,∃ts:List Int,r=.list (ts.map .int)/\ts.length<=30/\ts≠[]/\(∀t∈ts,0<=t/\t<(n:Int))/\ts.Pairwise (· < ·))->∃S:List (List Nat),l=S.map bG/\∀r∈S,r≠[]/\r.length<=30/\∀t∈r,t<n:=by
  have one:∀ts:List Int,(∀t∈ts,0<=t/\t<(n:Int))->∃r:List Nat,ts.map PyData.int=r.map rm/\r.length=ts.length/\∀t∈r,t<n:=by
   intro ts;induction ts with
   | nil=>intro _;exact ⟨[],rfl,rfl,by simp⟩
   | cons a r ih=>
    intro h;have ha:=h a mem_cons_self
    obtain ⟨t,e,el,ht⟩:=ih fun b hb=>h b (Ku _ hb)
    refine ⟨a.toNat::t,?_,by simp [el],fun c hc=>(Kr hc).elim (fun e=>by omega) (ht c)⟩
    rw [map_cons,map_cons,e];congr 2
    omega
  intro l;induction l with
  | nil=>intro _;exact ⟨[],rfl,by simp⟩
  | cons a r ih=>
   intro h;obtain ⟨ts,rfl,t1,t2,t3,_⟩:=h a mem_cons_self;obtain ⟨x,e,el,hx⟩:=one ts t3;obtain ⟨S,rfl,hS⟩:=ih fun b hb=>h b (Ku _ hb)
   refine ⟨x::S,by rw [map_cons,e],fun c hc=>(Kr hc).elim (fun e=>by
    subst e;exact ⟨fun z=>t2 (List.length_eq_zero_iff.mp (by rw [<-el,z];rfl)),by omega,hx⟩) (hS c)⟩
 obtain ⟨M,eM,hM⟩:=hm ms fun r hr=>let ⟨xs,a,b,_⟩:=g.m r hr;⟨xs,a,b⟩
 obtain ⟨S,eS,hS⟩:=hs ss g.s;subst eM eS;refine ⟨⟨n,os,M,S⟩,⟨g,h1,h24,?_,?_,hS,hM⟩,rfl,rfl⟩
 ·have:=g.lm;simpa using this
 ·have:=g.ls;simpa using this
theorem mO (l:List Int):intsOf (l.map .int)=some l:=by
 induction l with
 | nil=>rfl
 | cons a r ih=>rw [map_cons,intsOf,ih];rfl
theorem Ia {α:Type} {l:List α} (d:α) (h:l.length=n):l=(List.range n).map fun r=>l.getD r d:=by
 apply ext_getElem?
 intro k;rw [getElem?_map];by_cases hk:k<n
 ·rw [List.getElem?_range hk]
  show l[k]?=some (l.getD k d)
  rw [Kt,Ks (by omega)]
  rfl
 ·rw [getElem?_eq_none (by omega),getElem?_eq_none (by simp;omega)]
  rfl
theorem o6 {fl:FL} {Γ:Ev} {s:Sh} (hn:n<=1000) (h:fl Γ=.ok [⟨s,.int (n:Int)⟩] Γ):gm fl Γ=.ok ⟨(List.range n).map rm,true⟩ Γ:=by
 rw [qV (k:=(n:Int)) h rfl (by omega) (by omega),Int.toNat_natCast,vI]
section
variable {i j:Nat} {fc:FB} {fe:F1} {s:Sh} {Γ:Ev} {e:Nat->D} {c:Nat->Bool} {f:Nat->PV}
noncomputable abbrev Γ2 (Γ:Ev) (i j:Nat) (e:Nat->D) (r:Nat):Ev:=(Γ.set i (KD (.int (r:Nat)))).set j (KD (e r))
theorem Hw (hij:i≠j) (hΓ:(Γ.set i none).set j none=Γ):∀(m k:Nat) (acc:List D),(∀r,k<=r->r<k+m->fc (Γ2 Γ i j e r)=.ok (c r) (Γ2 Γ i j e r)) ->
  (∀r,k<=r->r<k+m->c r=true->fe (Γ2 Γ i j e r)=.ok (f r) (Γ2 Γ i j e r)/\coer s (f r)=true)->acc.length+m<=sizeLine->qR i j fc fe s k ((List.range' k m).map e) Γ acc=.ok (acc++(((List.range' k m).filter c).map fun r=>(f r).d)) Γ
 | 0,k,acc,_,_,_=>by simp [qR]
 | m+1,k,acc,hc,he,hl=>by
  have h1:=hc k (KA _) (by omega)
  have hl1:acc.length<sizeLine:=by omega
  have back:((Γ2 Γ i j e k).set i none).set j none=Γ:=by
   unfold Γ2;rw [List.set_comm _ _ (Ne.symm hij),set_set,set_set];exact hΓ
  rw [List.range'_succ,map_cons,qR];have h1:fc ((Γ.set i (KD (.int (k:Nat)))).set j (KD (e k)))=_:=h1
  rw [h1]
  cases hcd:c k with
  | false=>
   dsimp only;rw [if_pos hl1,back,Hw hij hΓ m (k+1) acc (fun r h1 h2=>hc r (by omega) (by omega)) (fun r h1 h2=>he r (by omega) (by omega)) (by omega)]
   rw [List.filter_cons_of_neg (by rw [hcd];exact Bool.false_ne_true)]
  | true=>
   obtain ⟨h2,h3⟩:=he k (KA _) (by omega) hcd
   dsimp only;rw [h2];dsimp only;rw [h3,decide_eq_true hl1,Bool.and_self,if_pos rfl,back,Hw hij hΓ m (k+1) (acc++[(f k).d]) (fun r h1 h2=>hc r (by omega) (by omega)) (fun r h1 h2=>he r (by omega) (by omega)) (by simp only [length_append,length_cons,List.length_nil];omega)]
   rw [List.filter_cons_of_pos hcd,map_cons,append_assoc];rfl
theorem qi (e:Nat->D) (n:Nat) (c:Nat->Bool) (f:Nat->PV) {st:Bool} (hi:bA fa Γ=.ok ⟨(List.range n).map e,st⟩ Γ) (h1:Γ[i]?=some none) (h2:Γ[j]?=some none) (hij:i≠j) (hs:s.isView=false) (hn:n<=10000)
  (hc:∀r,r<n->fc (Γ2 Γ i j e r)=.ok (c r) (Γ2 Γ i j e r)) (he:∀r,r<n->c r=true->fe (Γ2 Γ i j e r)=.ok (f r) (Γ2 Γ i j e r)/\coer s (f r)=true) :
  yQ s i j fa fc fe Γ=.ok ⟨.lst s,.list (((List.range n).filter c).map fun r=>(f r).d)⟩ Γ:=by
 have hb:(10000:Nat)<=sizeLine:=by decide
 unfold yQ;rw [hi];unfold Out.bind;dsimp only;rw [h1,h2,hs];have hΓ:(Γ.set i none).set j none=Γ:=by rw [yV h1,yV h2]
 rw [List.range_eq_range',Hw (c:=c) (f:=f) hij hΓ n 0 [] (fun r _ h=>hc r (by omega)) (fun r _ h=>he r (by omega)) (by simp;omega)]
 rfl
theorem mS (e:Nat->D) (n:Nat) (f:Nat->PV) {st:Bool} (hi:bA fa Γ=.ok ⟨(List.range n).map e,st⟩ Γ) (h1:Γ[i]?=some none) (h2:Γ[j]?=some none) (hij:i≠j) (hs:s.isView=false) (hn:n<=10000)
  (he:∀r,r<n->fe (Γ2 Γ i j e r)=.ok (f r) (Γ2 Γ i j e r)/\coer s (f r)=true) :
  yQ s i j fa aO fe Γ=.ok ⟨.lst s,.list ((List.range n).map fun r=>(f r).d)⟩ Γ:=by
 have:=qi (fc:=aO) e n (fun _=>true) f hi h1 h2 hij hs hn (fun _ _=>rfl) fun r hr _=>he r hr
 rw [this,List.filter_eq_self.mpr fun _ _=>rfl]
end
theorem GO {r:List Nat}:r.map rm=(r.map fun t:Nat=>(t:Int)).map PyData.int:=by rw [map_map];rfl
theorem Wd.Ok0.s_range {w:Wd} (ok:w.Ok0):w.s.map bG=(List.range w.n).map fun r=>bG (w.stp r):=by
 conv=>lhs;rw [Ia (l:=w.s) [] ok.ls]
 rw [map_map];rfl
noncomputable def Ka (p:Int):D->Bool
 | .int o=>o==p
 | _=>false
noncomputable def own (w:Wd) (p:Int):Nat->Bool:=JP (w.os.map (Ka p))
theorem Wd.Ok.o_at {w:Wd} (ok:w.Ok) {r:Nat} (hr:r<w.n):∃o:Int,(o=0\/o=1)/\eD w.os (r:Int)=some (.int o)/\∀p,own w p r=(o==p):=by
 have hl:r<w.os.length:=by rw [ok.g.lo];exact hr
 have hm:=ok.g.o _ (getElem_mem hl)
 have key:∀o:Int,w.os[r]=.int o->eD w.os (r:Int)=some (.int o)/\∀p,own w p r=(o==p):=fun o e=>by
  refine ⟨EG (by rw [Ks hl,e]),fun p=>?_⟩
  unfold own JP;rw [Kt,getElem?_map,Ks hl,e];rfl
 rcases hm with e | e
 ·exact ⟨0,.inl rfl,key 0 e⟩
 ·exact ⟨1,.inr rfl,key 1 e⟩
end KC
namespace T
open PySem PySem.Spec L2
open PyProof.Rows hiding St
section
variable {K:Fg} {W:XW} {U:St} {H:Hp} {Q:VK} {D:cJ} {fa fb:F1} {fl:FL}
open Classical in
def xE (i:Nat):F1:=fun Γ=>if vn Γ[i]? then (match Γ[i]? with
 | some (some p)=>.ok p Γ
 | _=>.no) else .no
theorem sj {i:Nat} (h:tE K W (xE i) U H Q):jV (fun xs H Q=>∃p ys,xs=[.ref p]/\(SqL K H p ys\/SqT K H p ys)/\∀l,H l=none->Q (.ref l) (upd H l (.lst ys))) (ao (ai i) bb) U H Q:=by
 obtain ⟨He,O,Fs,Γ,E,h⟩:=h;unfold xE at h
 cases ho:vn Γ[i]? with
 | false=>rw [ho] at h;exact h.elim
 | true=>
  obtain ⟨ds,e0⟩:=mM ho;rw [ho,e0] at h;have h:Wants K W He O Fs H U Q (.ok ⟨.lst .leaf,.list ds⟩ Γ):=h
  obtain ⟨l,vs,h1,h2,h3,h4,_⟩:=E.chgF e0;refine ⟨.ref l,h1,?_⟩
  exact ⟨l,vs,rfl,.inl (.inl (.of h2)),fun l' hl=>h _ _ _ _ (EX E (Same.refl _) (fun a ha=>.inl ha) ⟨h3,h4⟩ hl)⟩
end
section
variable {X:Cx} {N gl:List Str} {vs cs ls lo gs:List Nat} {W:XW} {a b c e:Expr} {es:List Expr} {pos p:Pos} {fa fb fc:F1} {fl:FL} {g:FS}
theorem cb_listO (S:Cp X N gl vs cs ls lo gs) (j:Nat) (hj:gl[j]?=some ("list":Str)) (hg:gs.contains j=true) (hm:X.mg "list"=none) (i:Nat) {x:Str} {p2:Pos} (hi:N[i]?=some x) (hv:vs.contains i=true) (hs:starEach [.Name x p2] X.env=[(false,eval (.Name x p2) X.env)]) :
  PE X (.Call (.Name "list" p) [.Name x p2] [] pos) (tE X.K W (xE i)):=by
 have m:=S.nm x (mem_of_getElem? hi)
 exact aZ (Ce fu (S.g hj hg).1 hm Ge (bK (xI (by rw [S.hN];exact hi) (S.vis i x hi hv) m.1 m.2) dF hs) (by decide) (by decide) hs rfl) fun _ _ _=>sj
end
end T
namespace TQ
open PySem PySem.Spec L2 T
open PyProof.Rows hiding St
section
variable {X:Cx} {N gl:List Str} {vs cs ls lo gs:List Nat} {W:XW} {a b c e:Expr} {es:List Expr} {pos p:Pos} {fa fb fc:F1} {fl:FL} {g:FS}
theorem gD (S:Cp X N gl vs cs ls lo gs) (j:Nat) (hj:gl[j]?=some ("list":Str)) (hg:gs.contains j=true) (hm:X.mg "list"=none) (i:Nat) {x:Str} {p2:Pos} (hi:N[i]?=some x) (hv:vs.contains i=true) (hs:starEach [.Name x p2] X.env=[(false,eval (.Name x p2) X.env)]) :
  Q (PE X (.Call (.Name "list" p) [.Name x p2] [] pos) (tE X.K W (xE i))):=⟨T.cb_listO S j hj hg hm i hi hv hs⟩
end
end TQ
namespace KC
open PySem PySem.Spec L2 T PySem.SeqAt
open PyProof.Rows hiding St
theorem nP {r:List Nat}:shaped (bG r)=true:=EU fun a ha=>by
 obtain ⟨t,_,e⟩:=List.mem_map.mp ha;exact ⟨(t:Int),e.symm⟩
theorem Gk:∀{n:Nat} {p:List Nat},p.Nodup->(∀x∈p,x<n)->p.length<=n
 | 0,[],_,_=>KA _
 | 0,a::p,_,h=>absurd (h a (by simp)) (Nat.not_lt_zero _)
 | n+1,p,nd,h=>by
  by_cases hn:n∈p
  ·have:=Gk (n:=n) (nd.erase n) fun x hx=>by
    obtain ⟨h1,h2⟩:=nd.mem_erase_iff.mp hx;have:=h x h2
    omega
   rw [List.length_erase_of_mem hn] at this;omega
  ·have:=Gk (n:=n) nd fun x hx=>by
    have h1:=h x hx
    have:x≠n:=fun e=>hn (e▸hx)
    omega
   omega
theorem vG {w:Wd} (ok:w.Ok) {Γ:Ev} {i:Nat} (h0:Γ[i]?=some (KD w.enc)):cX bZ (aa (ak (ae i) (eK (.int 0))) af) Γ=.ok ⟨.leaf,.int (w.n:Int)⟩ Γ:=by
 have e:ak (ae i) (eK (.int 0)) Γ=.ok ⟨.leaf,.list w.os⟩ Γ:=by
  rw [gM,aj h0];simp only [Out.bind,aK,Wd.enc,fy,nW,yj]
 refine dS (ar e ag) ?_
 simp [ok.g.lo]
end KC
namespace KC
open PySem PySem.Spec L2 T
open PyProof.Rows hiding St
noncomputable def jJ:FS:=(fz (jQ (bo aw (uZ BO jX (eK (.int 0)) (ae 1) (cX bZ (aa (ak (ae 0) (eK (.int 0))) af))))) HY bt)
noncomputable def aA:List KB->b9:=aQ 2 jJ
open PySem.SeqAt
theorem BL {w:Wd} (ok:w.Ok) {r:Nat} (hr:r<w.n):aA [w.enc,rm r]=.ok ⟨.leaf,.none⟩:=by
 have c:=nE (g:=BO) (g':=jX) (Γ:=bO 2 [w.enc,rm r]) (fa:=eK (.int 0)) (fb:=ae 1) (fc:=cX bZ (aa (ak (ae 0) (eK (.int 0))) af)) (b:=decide ((0:Int)<=(r:Int))) (b':=decide ((r:Int)<(w.n:Int))) aK (aj (i:=1) rfl) rfl rfl (vG ok rfl) rfl
 have t:=uD (dt (s:=.leaf) c)
 rw [decide_eq_true (show (0:Int)<=(r:Int) by omega),decide_eq_true (show (r:Int)<(w.n:Int) by omega)] at t
 exact yl (bU t nofun fun _=>rfl)
theorem xY {c:FB} {fa fb:F1} {Γ:Ev} {t:Bool} {p:PV} (hc:c Γ=.ok t Γ) (ha:t=true->fa Γ=.ok p Γ) (hb:t=false->fb Γ=.ok p Γ):qh c fa fb Γ=.ok p Γ:=by
 unfold qh;rw [hc];simp only [vj]
 cases t with
 | true=>exact ha rfl
 | false=>exact hb rfl
end KC
namespace T
open PySem
variable {n ep sl:Nat} {b:Bool} {t:SetTable} {h':Heap} {a:Addr} {S:Int->Bool} {ns:List Int} {α:Type} {M:Model} {p2 pos2:Pos}
theorem Hj {xs:Array Nat} {j p:Nat} (hp:∀k,k<xs.size->(xs.getD k j<j↔k<p)):∀(fuel lo hi:Nat),lo<=p->p<=hi->hi<=xs.size->hi-lo<=fuel->SetTable.below.go xs j fuel lo hi=p
 | 0,lo,hi,h1,h2,h3,h4=>by
  unfold SetTable.below.go;omega
 | n+1,lo,hi,h1,h2,h3,h4=>by
  unfold SetTable.below.go;by_cases c:lo<hi
  ·rw [if_pos c]
   have hm:=hp ((lo+hi) / 2) (by omega)
   simp only
   by_cases d:xs.getD ((lo+hi) / 2) j<j
   ·rw [if_pos d]
    have:=hm.mp d
    exact Hj hp n _ _ (by omega) h2 h3 (by omega)
   ·rw [if_neg d]
    have:¬(lo+hi) / 2<p:=fun z=>d (hm.mpr z)
    exact Hj hp n _ _ h1 (by omega) (by omega) (by omega)
  ·rw [if_neg c]
   omega
theorem GZ {xs:Array Nat} {j p:Nat} (hp:∀k,k<xs.size->(xs.getD k j<j↔k<p)) (hs:p<=xs.size):SetTable.below xs j=p:=Hj hp xs.size 0 xs.size (Nat.zero_le _) hs (KA _) (by omega)
def Rs (xs:Array Nat):Prop:=xs.toList.Pairwise (· < ·)
theorem Rs.lt {xs:Array Nat} (h:Rs xs) {i k:Nat} (hi:i<xs.size) (hk:k<xs.size) (hik:i<k):xs[i]<xs[k]:=by
 have:=(List.pairwise_iff_getElem.mp h) i k (by simpa using hi) (by simpa using hk) hik
 simpa using this
theorem m8 {xs:Array Nat}:SetTable.below xs 0=0:=GZ (fun k _=>by simp) (Nat.zero_le _)
theorem yW {xs:Array Nat} {k j:Nat} (hk:k<xs.size):xs.getD k j=xs[k]:=by
 unfold Array.getD;rw [dif_pos hk];rfl
theorem m9 {xs:Array Nat} (h:Rs xs) {i:Nat} (hi:i<xs.size):SetTable.below xs (xs[i]+1)=i+1:=by
 refine GZ (fun k hk=>?_) (by omega)
 rw [yW hk];rcases Nat.lt_trichotomy k i with c | c | c
 ·have:=h.lt hk hi c
  omega
 ·subst c
  omega
 ·have:=h.lt hi hk c
  omega
theorem gP (j:Nat):∀(l:List Nat),l.Pairwise (· < ·)->∀k,k<l.length->(l.getD k j<j↔k<l.countP (·<j))
 | [],_,k,hk=>by simp at hk
 | a::l,h,k,hk=>by
  obtain ⟨h1,h2⟩:=List.pairwise_cons.mp h;rw [List.countP_cons];by_cases c:a<j
  ·simp only [c,decide_true,if_true]
   cases k with
   | zero=>simpa using c
   | succ k=>
    have:=gP j l h2 k (by simpa using hk)
    simp only [List.getD_cons_succ]
    omega
  ·have z:l.countP (·<j)=0:=List.countP_eq_zero.mpr fun b hb=>by
    have:=h1 b hb
    simp
    omega
   simp only [c,decide_false,Bool.false_eq_true,if_false,z]
   cases k with
   | zero=>simp;omega
   | succ k=>
    have hk':k<l.length:=by simpa using hk
    simp only [List.getD_cons_succ]
    rw [Kt,Ks hk'];have:=h1 _ (getElem_mem hk')
    simp only [Option.getD_some]
    omega
theorem Rs.point {xs:Array Nat} (h:Rs xs) (j:Nat):(∀k,k<xs.size->(xs.getD k j<j↔k<SetTable.below xs j))/\SetTable.below xs j<=xs.size:=by
 have hp:∀k,k<xs.size->(xs.getD k j<j↔k<xs.toList.countP (·<j)):=fun k hk=>by
  have:=gP j xs.toList h k (by simpa using hk)
  rw [Kt,Ks (by simpa using hk)] at this
  rw [yW hk];simpa using this
 have hc:xs.toList.countP (·<j)<=xs.size:=by
  have:=List.countP_le_length (p:=(·<j)) (l:=xs.toList)
  simpa using this
 rw [GZ hp hc];exact ⟨hp,hc⟩
theorem Rs.insert {xs:Array Nat} (h:Rs xs) {j:Nat} (hj:xs[SetTable.below xs j]?≠some j):Rs (SetTable.insertAt xs (SetTable.below xs j) j):=by
 obtain ⟨hp,hs⟩:=h.point j;generalize SetTable.below xs j=p at hp hs hj
 unfold Rs SetTable.insertAt;have e:(((xs.extract 0 p).push j)++xs.extract p xs.size).toList=xs.toList.take p++[j]++xs.toList.drop p:=by
  simp [Array.toList_extract,List.extract]
  rw [take_of_length_le (by simp)]
 rw [e,append_assoc,List.pairwise_append];have low:∀a∈xs.toList.take p,a<j:=fun a ha=>by
  obtain ⟨k,hk,rfl⟩:=getElem_of_mem ha;rw [length_take] at hk;have hk':k<xs.size:=by
   have:k<xs.toList.length:=by omega
   simpa using this
  have:=(hp k hk').mpr (by omega)
  rw [yW hk'] at this;simpa using this
 have up:∀a∈xs.toList.drop p,j<a:=fun a ha=>by
  obtain ⟨k,hk,rfl⟩:=getElem_of_mem ha;rw [List.length_drop,Array.length_toList] at hk;have hk':p+k<xs.size:=by omega
  have q:¬xs.getD (p+k) j<j:=fun z=>by have:=(hp (p+k) hk').mp z;omega
  rw [yW hk'] at q;have e1:(xs.toList.drop p)[k]=xs[p+k]:=by simp
  rw [e1];have hne:xs[p+k]≠j:=fun z=>by
   cases k with
   | zero=>
    simp only [Nat.add_zero] at z
    exact hj (by rw [Array.getElem?_eq_getElem (by omega),z])
   | succ k=>
    have hp':p<xs.size:=by omega
    have q0:¬xs.getD p j<j:=fun z=>by have:=(hp p hp').mp z;omega
    rw [yW hp'] at q0;have:=h.lt hp' hk' (by omega)
    omega
  omega
 refine ⟨h.sublist (List.take_sublist _ _),?_,fun a ha b hb=>?_⟩
 ·rw [List.singleton_append,List.pairwise_cons]
  exact ⟨up,h.sublist (List.drop_sublist _ _)⟩
 ·have l1:=low a ha
  rw [List.singleton_append] at hb;rcases Kr hb with rfl | hb
  ·exact l1
  ·have:=up b hb
   omega
theorem rT:Rs (Array.range n):=by
 unfold Rs;rw [Array.toList_range];exact List.pairwise_lt_range
structure Tb (b:Bool) (t:SetTable):Prop where
 led:b=false->t.led=true
 rs:Rs t.place
 nd:t.dummies=#[]
theorem Tb.fresh:Tb b (.fresh 0 0 (!b)):=⟨fun e=>by rw [e];rfl,List.Pairwise.nil,rfl⟩
theorem Tb.standIn (h:Tb b t) (n:Nat):Tb b (t.standIn n):=⟨h.led,rT,rfl⟩
theorem Tb.orStandIn (h:Tb b t) (n:Nat):Tb b (t.orStandIn n):=by
 unfold SetTable.orStandIn;split
 ·exact h
 ·exact h.standIn n
theorem Tb.plain {b:Bool} {t:SetTable} (h:Tb b t) (p:Bool):Tb b { t with plain:=p }:=⟨h.led,h.rs,h.nd⟩
theorem kW {j:Nat}:SetTable.has #[] j=false:=by
 unfold SetTable.has;simp
theorem Tb.put (h:Tb b t) {j:Nat} (hj:t.place[SetTable.below t.place j]?≠some j):Tb b (t.put j).1:=by
 refine ⟨h.led,h.rs.insert hj,?_⟩
 show (if SetTable.has t.dummies j=true then _ else t.dummies)=#[]
 rw [h.nd,kW];rfl
theorem fL {b:Bool} {t:SetTable} (h:Tb b t) {ha:Nat->Int} {k:Int}:∀(fuel:Nat) (p:SetTable.Probe),p.dummy=none->∀j d,SetTable.probe.go t ha k fuel p=some (.empty j d)->d=none/\t.place[SetTable.below t.place j]?≠some j
 | 0,p,_,j,d,e=>by unfold SetTable.probe.go at e;cases e
 | n+1,p,hp,j,d,e=>by
  unfold SetTable.probe.go at e;have adv:(t.advance p).dummy=none:=by
   unfold SetTable.advance;split
   ·exact hp
   ·exact hp
  cases q:t.slot p.j with
  | empty=>
   rw [q] at e;simp only [Option.some.injEq,SetTable.Met.empty.injEq] at e
   obtain ⟨rfl,rfl⟩:=e;refine ⟨hp,fun z=>?_⟩
   unfold SetTable.slot at q;simp only [z,beq_self_eq_true,if_true] at q
   cases q
  | dummy=>
   unfold SetTable.slot at q;simp only [h.nd,kW] at q
   split at q<;>simp at q
  | live i=>
   rw [q] at e;simp only at e
   split at e
   ·cases e
   ·exact fL h n _ adv j d e
theorem Tb.free (h:Tb b t) {k:Int} {j:Nat} {d:Bool} (e:t.freeSlot k=some (j,d)):t.place[SetTable.below t.place j]?≠some j:=by
 unfold SetTable.freeSlot at e
 cases q:t.probe (fun _=>k+1) k (t.probeStart k) with
 | none=>rw [q] at e;cases e
 | some m=>
  rw [q] at e
  cases m with
  | candidate _ _ _=>cases e
  | empty i x=>
   obtain ⟨rfl,hi⟩:=fL h _ _ rfl i x q;simp only [Option.some.injEq,Prod.mk.injEq] at e
   obtain ⟨rfl,_⟩:=e;exact hi
theorem Tb.layNew (h:Tb b t) (es:Array (Int×Value)) (k:Int) (x:Value):Tb b (PySem.layNew t es k x).2.1:=by
 unfold PySem.layNew
 cases e:t.freeSlot k with
 | none=>exact h.standIn _
 | some jd=>
  obtain ⟨j,d⟩:=jd;exact (h.put (h.free e)).orStandIn _
theorem wK {led plain:Bool} {mask fg mv:Nat} {hs:Array Int} {o:Array Nat} (hl:b=false->led=true) (e:SetTable.laid mask fg mv led plain hs=some (t,o)):Tb b t:=by
 unfold SetTable.laid at e
 cases q:SetTable.layClean mask hs with
 | none=>rw [q] at e;cases e
 | some ow=>
  rw [q] at e;simp only [Option.bind_eq_bind,Option.bind_some,Option.pure_def,Option.some.injEq,Prod.mk.injEq] at e
  obtain ⟨rfl,_⟩:=e;refine ⟨hl,?_,rfl⟩
  unfold Rs;simp only [List.toList_toArray]
  rw [pairwise_map];refine List.Pairwise.filterMap _ (R:=(· < ·)) (fun a a' haa' c hc c' hc'=>?_) List.pairwise_lt_range
  cases x:ow.getD a none with
  | none=>rw [x] at hc;cases hc
  | some y=>
   cases x':ow.getD a' none with
   | none=>rw [x'] at hc';cases hc'
   | some y'=>
    rw [x] at hc;rw [x'] at hc'
    cases hc
    cases hc'
    exact haa'
theorem Tb.relay (h:Tb b t) (es:Array (Int×Value)) (n:Nat):Tb b (relayAll t es n).2.1:=by
 unfold relayAll
 cases e:t.relaid (es.map (·.1)) n with
 | none=>exact h.standIn _
 | some to=>
  obtain ⟨t',o⟩:=to;simp only
  split
  ·unfold SetTable.relaid at e
   exact wK h.led e
  ·exact h.standIn _
open PySem.Spec L2
open PyProof.Rows hiding St
abbrev cY (w:World):Bool:=w.params.followText "set-order"
def SetT (P:Program) (w:World) (h:Heap) (a:Addr) (S:Int->Bool) (n:Nat):Prop:=
 ∃o es ep t,h.get? a=some o/\o.ExactSet/\o.data=.set es ep t/\ElemsOf (intKind P w) es.toList/\(∀k,S k=true↔∃e∈es.toList,(intKind P w).is k e.2=true)/\es.size<scanBound/\t.fits es.size=true/\es.size=n/\Tb (cY w) t
section
variable {P:Program} {w:World} {A:Around} {E:Value->Shared->Prop} {s:Shared}
theorem SetT.at {h:Heap} (x:SetT P w h a S n) (k:∀o,h.get? a=some o->h'.get? a=some o):SetT P w h' a S n:=by
 obtain ⟨o,es,ep,t,ho,r⟩:=x;exact ⟨o,es,ep,t,k o ho,r⟩
theorem SetT.congr {h:Heap} {S':Int->Bool} {n':Nat} (x:SetT P w h a S n) (e:∀k,S k=S' k) (en:n=n'):SetT P w h a S' n':=by
 have:S=S':=funext e
 subst this en;exact x
theorem nN {h:Heap} {o:Obj} {es es':Array (Int×Value)} {t':SetTable} (ho:h.get? a=some o) (hex:o.ExactSet) (hd:o.data=.set es ep t) (hel:ElemsOf (intKind P w) es'.toList) (hm:∀k,S k=true↔∃e∈es'.toList,(intKind P w).is k e.2=true) (hb:es'.size<scanBound) (hf:t'.fits es'.size=true) (tb:Tb (cY w) t') :
  (h.update a (Obj.putSet es' t')).get? a=some { o with data:=.set es' (ep+1) t' }/\SetT P w (h.update a (Obj.putSet es' t')) a S es'.size:=by
 have q:=(SetOf_store (knd:=intKind P w) ho hex hd hel hm hb hf).1
 exact ⟨q,_,es',ep+1,t',q,hex,rfl,hel,hm,hb,hf,rfl,tb⟩
theorem En {k:Int} {x:Value} {Q:Bool->Shared->Prop} (hk:(intKind P w).is k x=true) (hx:x.scannable=true) (hS:SetT P w s.heap a S n) (hr:n+1<scanBound)
  (h:∀h',Heap.SameBut a s.heap h'->SetT P w h' a (fun i=>S i||decide (i=k)) (if S k then n else n+1)->∀b,Q b { s with heap:=h' }):wpAny (model P w) A (setAddHashed a x ((intKind P w).hash k)) Q E s:=by
 obtain ⟨o,es,ep,t,ho,hex,hd,hel,hm,hb,hf,hn,tb⟩:=hS;unfold setAddHashed setAddHashedIn;refine wpAny_holding (Kx (wpAny_setState_of ho hd hf ?_))
 dsimp only;rw [byScan_of hx hb hel,if_pos rfl];unfold setAddByScan;refine Kx (Kx (wpAny_rule (Kx (wpAny_setScan_of hk ho hd hf hel ?_))))
 cases q:List.findIdx? (fun e=>(intKind P w).is k e.2) es.toList with
 | some j=>
  dsimp only;obtain ⟨hj,hp,_⟩:=List.findIdx?_eq_some_iff_getElem.mp q
  have sk:S k=true:=(hm k).mpr ⟨_,getElem_mem hj,hp⟩
  refine Ky (Ky ?_)
  have z:=h s.heap (Heap.SameBut.refl a s.heap) ⟨o,es,ep,t,ho,hex,hd,hel,fun i=>?_,hb,hf,by rw [sk];exact hn,tb⟩ false
  ·have es':s={ s with heap:=s.heap }:=by cases s;rfl
   rw [es'];exact z
  ·rw [Bool.or_eq_true,decide_eq_true_eq,<-hm i]
   exact ⟨fun y=>y.elim id fun e=>e▸sk,.inl⟩
 | none=>
  dsimp only;have sk:S k=false:=by
   cases e:S k with
   | false=>rfl
   | true=>
    obtain ⟨y,hy,hp⟩:=(hm k).mp e;have:=List.findIdx?_eq_none_iff.mp q y hy
    rw [hp] at this
    cases this
  have pm:=layNew_perm t es ((intKind P w).hash k) x
  have ft:=layNew_fits t es ((intKind P w).hash k) x
  have tb1:=tb.layNew es ((intKind P w).hash k) x
  generalize layNew t es ((intKind P w).hash k) x=L at pm ft tb1 ⊢
  obtain ⟨e1,t1,wd,gv⟩:=L;dsimp only at pm ft tb1 ⊢
  rw [Array.toList_push] at pm;have el1:ElemsOf (intKind P w) e1.toList:=(hel.push hk hx).perm pm
  have m1:=fun i=>mem_push_iff hk hm pm i
  have sz:e1.size=n+1:=by rw [<-Array.length_toList,pm.length_eq,length_append,Array.length_toList,hn];rfl
  have b1:e1.size<scanBound:=by rw [sz];exact hr
  have gw:∀(b:Bool) {s1:Shared} {R:Unit->Shared->Prop},R () s1->wpAny (model P w) A (match b with | true=>rule "set.scan.the-table-gave-way" | false=>pure ()) R E s1:=fun b s1 R y=>by
   cases b
   ·exact Ky y
   ·exact wpAny_rule y
  have fin:∀h',Heap.SameBut a s.heap h'->SetT P w h' a (fun i=>S i||decide (i=k)) e1.size->∀b,Q b { s with heap:=h' }:=fun h' sb y=>by
   have:=h h' sb
   rw [sk] at this;rw [sz] at y;exact this y
  have tail:∀t2:SetTable,t2.fits e1.size=true->Tb (cY w) t2->∀{R:Option Bool->Shared->Prop},(∀h',(∀b,Q b { s with heap:=h' })->R (some true) { s with heap:=h' })->wpAny (model P w) A (do
    storeSet a e1 t2
    if (!wd&&t2.tooFull)=true then do
      (match (relayAll t2 e1 (SetTable.grown e1.size)).2.2 with | true=>rule "set.scan.the-table-gave-way" | false=>pure ())
      storeSet a (relayAll t2 e1 (SetTable.grown e1.size)).1 (relayAll t2 e1 (SetTable.grown e1.size)).2.1
      pure (some true)
     else pure (some true)) R E s:=fun t2 f2 tb2 R hR=>by
   refine Kx (wpAny_storeSet_of ho hd ?_ (fits_of_scanBound b1))
   obtain ⟨g1,s1⟩:=nN ho hex hd el1 m1 b1 f2 tb2;have sb1:=Heap.SameBut.update s.heap a (Obj.putSet e1 t2)
   split
   ·have pr:=relayAll_perm t2 e1 (SetTable.grown e1.size)
    have fr:=relayAll_fits t2 e1 (SetTable.grown e1.size)
    have tr:=tb2.relay e1 (SetTable.grown e1.size)
    generalize relayAll t2 e1 (SetTable.grown e1.size)=Rl at pr fr tr ⊢
    obtain ⟨e2,t3,g2⟩:=Rl;dsimp only at pr fr tr ⊢
    have sz2:e2.size=e1.size:=by rw [<-Array.length_toList,pr.length_eq,Array.length_toList]
    have b2:e2.size<scanBound:=by rw [sz2];exact b1
    refine Kx (gw _ (Kx (wpAny_storeSet_of g1 rfl ?_ (fits_of_scanBound b2))))
    obtain ⟨_,s2⟩:=nN (P:=P) (S:=fun i=>S i||decide (i=k)) g1 hex rfl (el1.perm pr) (fun i=>(m1 i).trans ⟨fun ⟨e,he,y⟩=>⟨e,pr.mem_iff.mpr he,y⟩,fun ⟨e,he,y⟩=>⟨e,pr.mem_iff.mp he,y⟩⟩) b2 fr tr
    rw [sz2] at s2;exact Ky (hR _ (fin _ (sb1.trans (Heap.SameBut.update _ a _)) s2))
   ·exact Ky (hR _ (fin _ sb1 s1))
  refine Kx (gw _ ?_)
  split
  ·refine Kx ?_
   rw [hashByValue_scannable 8 hx];refine Ky ?_
   refine tail _ ?_ ?_ fun h' y=>?_
   ·split
    ·exact ft
    ·exact SetTable.fits_plain_off ft
   ·split
    ·exact tb1
    ·exact tb1.plain false
   ·exact Ky (y true)
  ·refine Kx (Ky ?_)
   simp only [if_true]
   exact tail _ ft tb1 fun h' y=>Ky (y true)
end
section
variable {P:Program} {w:World} {A:Around} {R:Result->Shared->Prop} {I:Addr} {fp wr:List Addr} {G:Array GenState->Array GenState->Prop} {n:Nat} {Pr:Nat->Value->Prop} {Sn:Nat->Shared->Prop}
theorem Cq (W:WalksS P w A.in1 I fp wr G n Pr Sn) (S:Addr) (hS:S∉fp) (val:Nat->Int) (hv:∀i v,Pr i v->∃t,v=.int (val i) t) (hb:n+1<scanBound):∀(k i:Nat) (s:Shared),n-i=k->i<=n->Sn i s->SetT P w s.heap S (fun z=>(firstMet val i).any (·==z)) (firstMet val i).length ->
   (∀s',Moved (S::wr) G s s'->SetT P w s'.heap S (fun z=>(firstMet val n).any (·==z)) (firstMet val n).length->R (.ok (.ret .none)) s')->codeAny (model P w) A (.builtin "set.update.loop" ⟨[.ref S,.ref I],[]⟩) R s:=by
 have hw:S∉wr:=fun z=>hS (W.sub _ z)
 have sub:∀b∈wr,b∈S::wr:=fun b z=>Ku _ z
 intro k;induction k with
 | zero=>
  intro i s hk hi st x hR;obtain rfl:i=n:=by omega
  refine codeAny_builtin F.entry_set_update_loop ?_
  rw [Around.under_plainId F.plain_set_update_loop _];refine Kx (W.done s _ _ st fun s' mv=>?_)
  exact Ky (hR s' (mv.mono sub) (x.at fun o e=>mv.heap S o hw e))
 | succ k ih=>
  intro i s hk hi st x hR;have lt:i<n:=by omega
  refine codeAny_builtin F.entry_set_update_loop ?_
  rw [Around.under_plainId F.plain_set_update_loop _];refine Kx (W.item i s _ _ lt st fun v s' pv st' mv=>?_)
  obtain ⟨t,rfl⟩:=hv i v pv;have x':=x.at fun o e=>mv.heap S o hw e
  refine Kx (wpAny_holding ?_)
  unfold setAdd;refine wpAny_holding (Kx ((intKind P w).pyHash (k:=val i) (intKind_is _ _ _ _) ?_))
  have room:(firstMet val i).length+1<scanBound:=by have:=firstMet_length_le val i;omega
  refine En (s:={ s' with toks:=s'.toks+1 }) (intKind_is _ _ _ _) rfl x' room fun h' sb x2 b=>?_
  have x3:SetT P w h' S (fun z=>(firstMet val (i+1)).any (·==z)) (firstMet val (i+1)).length:=x2.congr (fun z=>by rw [firstMet_succ,step_any]) (by rw [firstMet_succ,step_length])
  refine Ky ⟨plainId_quiet F.plain_set_update_loop _,ih (i+1) _ (by omega) lt (W.frame _ s' _ _ st' (Nat.le_succ _) fun c hc o e=>?_) x3 fun s2 mv2 x4=>?_⟩
  ·rw [sb.2 c fun z=>hS (by rw [<-z];exact hc)]
   exact e
  ·refine hR s2 (Moved.trans W.gtrans ((mv.mono sub).then_heap (Nat.le_succ _) fun c o hc e=>?_) mv2) x4
   rw [sb.2 c fun z=>hc (by rw [z];exact mem_cons_self)]
   exact e
end
section
variable {P:Program} {w:World} {A:Around} {E:Value->Shared->Prop} {s:Shared}
abbrev gU (w:World):Obj:={ cls:=.type "set",dict:=none,data:=.set #[] 0 (.fresh 0 0 (!cY w)) }
theorem DC (a:Value) {Q:Value->Shared->Prop} (h:Q (.ref s.heap.objs.size) { s with heap:=s.heap.push (gU w) }):codeAny (model P w) A (.call (.builtin "set.__new__") ⟨[.type "set",a],[]⟩) (wants Q E) s:=by
 refine codeAny_of_tree ?_
 refine Kx (wpAny_of_eq (F.newCall_set_1 a) (Ky ⟨plainId_quiet F.plain_set_new _,codeAny_builtin F.entry_set_new ?_⟩))
 rw [Around.under_plainId F.plain_set_new _];unfold Builtin.«set.__new__» Builtin.Frozenset.newClass
 have sub:=sub_set_self
 obtain ⟨hp,g,d,tk,os⟩:=s;dsimp only;wp_walk
 refine wpAny_askSetting (Ky ?_)
 dsimp only;simp only [newObj]
 exact Kx (wpAny_alloc (Ky (Ky h)))
theorem w5 {h:Heap} (e:h.get? a=some (gU w)):SetT P w h a (fun _=>false) 0:=
 ⟨_,#[],0,_,e,⟨rfl,rfl,rfl⟩,rfl,fun e he=>by simp at he,fun k=>by simp,by decide,rfl,rfl,Tb.fresh⟩
theorem mZ {l:Addr} {its:Array Value} {Q:Value->Shared->Prop} (hh:A.handled=none) (hl:s.heap.IsList l its) (hi:IntsAre its.toList ns) (hb:its.size+1<scanBound)
  (h:∀(h':Heap) (tk:Nat),SetT P w h' s.heap.objs.size (fun z=>(firstMet (fun i=>ns.getD i 0) its.size).any (·==z)) (firstMet (fun i=>ns.getD i 0) its.size).length->(∀b o,s.heap.get? b=some o->h'.get? b=some o)->Q (.ref s.heap.objs.size) { s with heap:=h',toks:=tk }) :
  wpAny (model P w) A (call (.type "set") [.ref l]) Q E s:=by
 obtain ⟨c,tl,mro⟩:=F.called_set.mro;have made:=F.called_set.made
 have sub:=F.called_set.sub
 refine wpAny_call (codeAny_of_tree ?_)
 show wpAny _ _ (callAny (.type "set") _) _ _ _
 refine Ky ⟨Code.quiet_builtin _ (by decide +kernel),codeAny_builtin F.entry_type_call ?_⟩
 rw [Around.under_plain (weight_type_call_type "set" [.ref l] []) rfl]
 have h1:=F.called_set.notType
 have h2:=F.called_set.canCreate
 have ct:=F.typeCall_set_1 (.ref l)
 repeat (any_goals (first | assumption | wp_step))
 refine codeAny_mono (DC (.ref l) (E:=E) (Q:=fun ob s1=>ob=.ref s.heap.objs.size/\s1={ s with heap:=s.heap.push (gU w) }) ⟨rfl,rfl⟩) fun r s1 hr=>?_
 cases r with
 | error e=>exact hr
 | ok fl=>
  cases fl with
  | ret ob=>
   obtain ⟨rfl,rfl⟩:=hr;have gS:(s.heap.push (gU w)).get? s.heap.objs.size=some (gU w):=Heap.get?_push_size _ rfl
   have ty:Shared.TypeIs { s with heap:=s.heap.push (gU w) } (.ref s.heap.objs.size) "set":=⟨_,gS,rfl⟩
   have li:=F.called_set.init.lookup
   have bi:=F.called_set.init.bind (.ref s.heap.objs.size)
   repeat (any_goals (first | assumption | wp_step))
   refine codeAny_mono (codeAny_call_builtin (R:=wants (fun r s2=>r=.none/\∃h' tk,s2={ s with heap:=h',toks:=tk }/\SetT P w h' s.heap.objs.size (fun z=>(firstMet (fun i=>ns.getD i 0) its.size).any (·==z)) (firstMet (fun i=>ns.getD i 0) its.size).length/\(∀b o,s.heap.get? b=some o->h'.get? b=some o)) E) F.called_set.init.plain F.entry_set_init (check_set_init_1 ty ?_)) fun r2 s2 hr2=>?_
   ·have hl':=hl
    obtain ⟨ol,gl,cl,nl,dl⟩:=hl;obtain ⟨oc,od,odt,os⟩:=ol;simp only at cl dl
    subst cl dl;have gl':(s.heap.push (gU w)).get? l=some { cls:=.type "list",dict:=od,data:=.seq its nl,slots:=os }:=Kz _ gl
    have s1:=F.sub_list_set
    have s2:=F.sub_list_frozenset
    have ne:(Value.type "list"==Value.type "dict")=false:=by decide
    have l1:(s.heap.push (gU w)).IsList l its:=⟨_,gl',rfl,nl,rfl⟩
    unfold Builtin.«set.__init__» noKeywords Builtin.Frozenset.updateFrom
    generalize hPI:pyIter=PI
    wp_walk
    subst hPI;refine wpAny_pyIter_list l1 (Kx (wpAny_runValue ?_))
    have lS:l<s.heap.objs.size:=Heap.lt_size gl
    have h3:A.in1.in1.in1.handled=none:=by simp [hh]
    have nI:l≠(s.heap.push (gU w)).objs.size:=by
     rw [Heap.size_push];exact Nat.ne_of_lt (Nat.lt_succ_of_lt lS)
    have nf:s.heap.objs.size∉[(s.heap.push (gU w)).objs.size,l]:=by
     rw [Heap.size_push];simp only [mem_cons,not_mem_nil,or_false,not_or]
     exact ⟨Nat.ne_of_lt (Nat.lt_succ_self _),Nat.ne_of_gt lS⟩
    refine Cq ((Walks.list h3 _ l nI its).toS) s.heap.objs.size nf (fun i=>ns.getD i 0) (fun i v e=>IntsAre.int_at hi i v (by rw [Array.getElem?_toList];exact e)) hb (its.size-0) 0 _ (by omega) (Nat.zero_le _) ⟨⟨_,Heap.get?_push_size _ rfl,rfl,rfl⟩,l1.push _⟩ ?_ fun s' mv x=>?_
    ·exact (w5 (Kz _ gS)).congr (fun _=>rfl) rfl
    ·obtain ⟨h',g',d',tk',os'⟩:=s'
     have e1:g'=s.gens:=mv.gens
     have e2:d'=s.drawn:=mv.drawn
     have e3:os'=s.os:=mv.os
     subst e1 e2 e3;refine Ky (Ky ⟨rfl,h',tk',rfl,x,fun b o e=>?_⟩)
     have hb1:b≠s.heap.objs.size:=Nat.ne_of_lt (Heap.lt_size e)
     have hb2:b≠(s.heap.push (gU w)).objs.size:=by
      rw [Heap.size_push];exact Nat.ne_of_lt (Nat.lt_succ_of_lt (Heap.lt_size e))
     exact mv.heap b o (by simp only [mem_cons,not_mem_nil,or_false,not_or];exact ⟨hb1,hb2⟩) (Kz _ (Kz _ e))
   ·cases r2 with
    | error e=>exact hr2
    | ok f2=>
     cases f2 with
     | ret r=>
      obtain ⟨rfl,h',tk,rfl,x,kp⟩:=hr2;repeat (any_goals (first | assumption | wp_step))
      exact h _ _ x kp
     | _=>exact hr2.elim
  | _=>exact hr.elim
end
theorem jF:entryFor table "set.__iter__"=some Builtin.«frozenset.__iter__»:=entryFor_alias (id' := "frozenset.__iter__") (by kernel_rfl) rfl (by decide +kernel) (by kernel_rfl)
theorem slot_si_next:Slot "set_iterator" "__next__" "set_iterator.__next__":=
 .of (owner := "set_iterator") (n := "__next__") (by rw [typeLookup_type,builtinLookup_eq_fast];kernel_rfl) (by decide +kernel) (by decide +kernel) (by decide +kernel) (by first | exact .inl (by decide +kernel) | exact .inr (by decide +kernel)) (by rw [isSubtype_type];kernel_rfl)
theorem Fz:entryFor table "set_iterator.__next__"=some Builtin.«set_iterator.__next__»:=entryFor_of_tree (by kernel_rfl)
theorem Fp (a:Value):argsOk "set_iterator.__next__" ⟨[a],[]⟩:=by
 unfold argsOk;rw [signature?_of (id := "set_iterator.__next__") (n:=['_','_','t','x','e','n','_','_']) (o:=['r','o','t','a','r','e','t','i','_','t','e','s']) (by kernel_rfl) (show Manifest.owners.lookup (String.ofList ['r','o','t','a','r','e','t','i','_','t','e','s'].reverse)=some Manifest.sig_set_iterator by kernel_rfl)]
 kernel_rfl
theorem og {α:Type} (next:Nat->Nat):∀(fuel k:Nat) (l:List α) (out:Array α),l.length=fuel->(pickOrder.go next fuel k l out).toList.Perm (out.toList++l)
 | 0,k,l,out,h=>by
  unfold pickOrder.go;rw [List.length_eq_zero_iff.mp h,append_nil]
 | n+1,k,l,out,h=>by
  unfold pickOrder.go;have lt:next k % l.length<l.length:=Nat.mod_lt _ (by omega)
  generalize next k % l.length=j at lt
  rw [Ks lt];simp only
  have ih:=og next n (k+1) (l.eraseIdx j) (out.push l[j]) (by rw [List.length_eraseIdx_of_lt lt];omega)
  refine ih.trans ?_
  rw [Array.toList_push,append_assoc];refine List.Perm.append_left _ ?_
  rw [List.singleton_append];rw [List.eraseIdx_eq_take_drop_succ];have e:l=l.take j++l[j]::l.drop (j+1):=by rw [List.getElem_cons_drop,take_append_drop]
  conv=>rhs;rw [e]
  exact List.perm_middle.symm
theorem Hn (next:Nat->Nat) (xs:Array α):(pickOrder next xs).toList.Perm xs.toList:=by
 unfold pickOrder;have:=og next xs.size 0 xs.toList #[] (by simp)
 simpa using this
section
variable {P:Program} {w:World} {A:Around} {E:Value->Shared->Prop} {s:Shared} {S it:Addr} {o:Obj} {es:Array (Int×Value)} {ep:Nat} {t:SetTable}
theorem oz (ht:cY w=true) (ho:s.heap.get? S=some o) (hd:o.data=.set es ep t) (hf:t.fits es.size=true) {i:Nat} {Q:Option (Value×Nat)->Shared->Prop} (h:Q (((pickOrder (w.params.setOrder S ep) es)[i]?).map fun e=>(e.2,sl)) s):wpAny (model P w) A (setNext S sl i ep) Q E s:=by
 unfold setNext;refine Kx (wpAny_setState_of ho hd hf ?_)
 dsimp only;refine Kx ?_
 unfold setsByText;refine Kx (wpAny_askSetting (Ky ?_))
 show wpAny (model P w) A (if cY w=true then _ else _) Q E s
 rw [if_pos ht];simp only [bne_self_eq_false,Bool.false_eq_true,if_false]
 refine Kx ?_
 unfold setWalk;refine Kx (wpAny_setState_of ho hd hf ?_)
 dsimp only;refine Kx ?_
 unfold setsByText;refine Kx (wpAny_askSetting (Ky ?_))
 show wpAny (model P w) A (if cY w=true then _ else _) _ E s
 rw [if_pos ht];exact Kx (wpAny_askSetting (Ky (Ky h)))
theorem ja (hf:t.fits es.size=true):t.place.size=es.size:=by
 unfold SetTable.fits at hf;rw [Bool.and_eq_true,beq_iff_eq] at hf;exact hf.1
theorem oA (ht:cY w=false) (tb:Tb (cY w) t) (hp:(!t.plain&&decide (es.size>1))=false) (ho:s.heap.get? S=some o) (hd:o.data=.set es ep t) (hf:t.fits es.size=true) {i:Nat} {Q:Option (Value×Nat)->Shared->Prop}
  (h:Q (match es[SetTable.below t.place sl]?,t.place[SetTable.below t.place sl]? with | some (_,x),some j=>some (x,j+1) | _,_=>none) s):wpAny (model P w) A (setNext S sl i ep) Q E s:=by
 have led:=tb.led ht
 unfold setNext;refine Kx (wpAny_setState_of ho hd hf ?_)
 dsimp only;refine Kx ?_
 unfold setsByText;refine Kx (wpAny_askSetting (Ky ?_))
 show wpAny (model P w) A (if cY w=true then _ else _) Q E s
 rw [if_neg (by rw [ht];exact Bool.false_ne_true)]
 show wpAny (model P w) A (if (!t.plain&&decide (es.size>1))=true then _ else _) Q E s
 rw [if_neg (by rw [hp];exact Bool.false_ne_true)]
 show wpAny (model P w) A ((if (!t.led&&!es.isEmpty)=true then _ else _) >>= _) Q E s
 rw [if_neg (by rw [led];simp)]
 exact Kx (Ky (Ky h))
end
def SetIt (h:Heap) (it S:Addr) (f:Value) (i n ep:Nat):Prop:=∃o,h.get? it=some o/\o.cls=.type "set_iterator"/\o.data=.fields #[f,.int i 0,.ref S,.int n 0,.int ep 0]
theorem SetIt.at {h:Heap} {it S:Addr} {f:Value} {i:Nat} (x:SetIt h it S f i n ep) (k:∀o,h.get? it=some o->h'.get? it=some o):SetIt h' it S f i n ep:=let ⟨o,a,b⟩:=x;⟨o,k o a,b⟩
section
variable {P:Program} {w:World} {A:Around} {E:Value->Shared->Prop} {s:Shared} {S it:Addr} {o:Obj} {es:Array (Int×Value)} {ep:Nat} {t:SetTable} {i n sl nx:Nat} {x:Value} {Q:Option Value->Shared->Prop}
theorem lp (hit:SetIt s.heap it S (.int sl 0) i n ep) (ho:s.heap.get? S=some o) (hd:o.data=.set es ep t) (hf:t.fits es.size=true) (hn:es.size=n)
  (hN:∀(A:Around) (E:Value->Shared->Prop) (R:Option (Value×Nat)->Shared->Prop),R (some (x,nx)) s->wpAny (model P w) A (setNext S sl i ep) R E s)
  (hQ:∀h',SetIt h' it S (.int nx 0) (i+1) n ep->Heap.SameBut it s.heap h'->Q (some x) { s with heap:=h' }):wpAny (model P w) A (pyNext (.ref it)) Q E s:=by
 obtain ⟨oi,gi,ci,di⟩:=hit;have ty:s.TypeIs (.ref it) "set_iterator":=⟨oi,gi,ci⟩
 unfold pyNext;refine Kx (wpAny_attempt (wpAny_callSpecial?_slot (name:=Str.ofString "__next__") ty slot_si_next (wpAny_call_entry slot_si_next ty Fz ?_ (Fp _))))
 unfold Builtin.«set_iterator.__next__»
 refine Kx (Ky ?_)
 refine Kx (wpAny_fieldsOf gi di ?_)
 dsimp only;refine Kx (wpAny_setEntries_of ho hd hf ?_)
 rw [if_neg (by rw [hn];simp)]
 simp only [Int.toNat_natCast]
 refine Kx (hN _ _ _ ?_)
 dsimp only;refine Kx (wpAny_setField gi di (by simp) ?_)
 have g1:=Heap.get?_update_self (Obj.mapFields (·.setIfInBounds 0 (rawInt nx))) gi (Obj.isFreed_of_fields (Obj.data_mapFields di _))
 have d1:=Obj.data_mapFields di (·.setIfInBounds 0 (rawInt nx))
 refine Kx (wpAny_setField g1 d1 (by simp) (Ky ⟨x,rfl,Ky (hQ _ ?_ ((Heap.SameBut.update ..).trans (Heap.SameBut.update ..)))⟩))
 refine ⟨_,Heap.get?_update_self _ g1 (Obj.isFreed_of_fields (Obj.data_mapFields d1 _)),(Obj.cls_mapFields ..).trans ((Obj.cls_mapFields ..).trans ci),?_⟩
 rw [Obj.data_mapFields d1];simp [rawInt]
theorem oV (hh:A.handled=none) (hit:SetIt s.heap it S (.int sl 0) i n ep) (ho:s.heap.get? S=some o) (hd:o.data=.set es ep t) (hf:t.fits es.size=true) (hn:es.size=n)
  (hN:∀(A:Around) (E:Value->Shared->Prop) (R:Option (Value×Nat)->Shared->Prop),R none s->wpAny (model P w) A (setNext S sl i ep) R E s)
  (hQ:∀h',Heap.ExtBut it s.heap h'->Q none { s with heap:=h' }):wpAny (model P w) A (pyNext (.ref it)) Q E s:=by
 obtain ⟨oi,gi,ci,di⟩:=hit;have ty:s.TypeIs (.ref it) "set_iterator":=⟨oi,gi,ci⟩
 unfold pyNext;refine Kx (wpAny_attempt (wpAny_callSpecial?_slot (name:=Str.ofString "__next__") ty slot_si_next (wpAny_call_entry slot_si_next ty Fz ?_ (Fp _))))
 unfold Builtin.«set_iterator.__next__»
 refine Kx (Ky ?_)
 refine Kx (wpAny_fieldsOf gi di ?_)
 dsimp only;refine Kx (wpAny_setEntries_of ho hd hf ?_)
 rw [if_neg (by rw [hn];simp)]
 simp only [Int.toNat_natCast]
 refine Kx (hN _ _ _ ?_)
 dsimp only;refine Kx (wpAny_setField gi di (by simp) ?_)
 refine Kx ?_
 simp only [newExc,newTuple]
 refine Kx (wpAny_newObj_type ?_ (by size_fits))
 refine Kx (m:=firstArgMember _ _) (wpAny_of_eq (a:=Value.none) (by first | rfl | (simp only [firstArgMember];rfl)) ?_)
 refine wpAny_newObj_type ?_ (by size_fits)
 simp only [raiseNew]
 refine Kx (wpAny_handled ?_)
 rw [show A.in1.handled=none from hh];refine Kx (Ky (wpAny_throw ?_))
 refine Kx (wpAny_isInstance (T := "StopIteration") (b:=true) ⟨_,Heap.get?_push_size _ rfl,rfl⟩ isSubtype_stop ?_)
 exact Ky (hQ _ (((Heap.SameBut.update ..).extBut.push _).push _))
end
theorem eO:Slot "set_iterator" "__iter__" "set_iterator.__iter__":=
 .of (owner := "set_iterator") (n := "__iter__") (by rw [typeLookup_type,builtinLookup_eq_fast];kernel_rfl) (by decide +kernel) (by decide +kernel) (by decide +kernel) (by first | exact .inl (by decide +kernel) | exact .inr (by decide +kernel)) (by rw [isSubtype_type];kernel_rfl)
theorem iz:entryFor table "set_iterator.__iter__"=some Builtin.«dict_keyiterator.__iter__»:=entryFor_alias (id' := "dict_keyiterator.__iter__") (by kernel_rfl) (by first | rfl | decide +kernel) (by decide +kernel) (by kernel_rfl)
theorem jR (a:Value):argsOk "set_iterator.__iter__" ⟨[a],[]⟩:=by
 unfold argsOk;rw [signature?_of (id := "set_iterator.__iter__") (n:=['_','_','r','e','t','i','_','_']) (o:=['r','o','t','a','r','e','t','i','_','t','e','s']) (by kernel_rfl) (show Manifest.owners.lookup (String.ofList ['r','o','t','a','r','e','t','i','_','t','e','s'].reverse)=some Manifest.sig_set_iterator by kernel_rfl)]
 kernel_rfl
section
variable {P:Program} {w:World} {A:Around} {E:Value->Shared->Prop} {s:Shared} {S it:Addr} {o:Obj} {es:Array (Int×Value)} {ep:Nat} {t:SetTable} {i n:Nat} {f:Value}
theorem GP {Q:Value->Shared->Prop} (hit:SetIt s.heap it S f i n ep) (h:Q (.ref it) s):wpAny (model P w) A (pyIter (.ref it)) Q E s:=by
 obtain ⟨oi,gi,ci,_⟩:=hit;have ty:s.TypeIs (.ref it) "set_iterator":=⟨oi,gi,ci⟩
 refine wpAny_pyIter_slot ty eO (wpAny_call_entry eO ty iz ?_ (jR _))
 show wpAny _ _ (ret (.ref it)) _ _ s
 exact Ky ⟨_,rfl, "set_iterator",_,ty,slot_si_next.lookup,h⟩
theorem vp (hh:A.handled=none) (ht:cY w=true) (hne:S≠it) (hd:o.data=.set es ep t) (hf:t.fits es.size=true) (hn:es.size=n) :
  Walks P w A it [it,S] [it] n (fun i v=>((pickOrder (w.params.setOrder S ep) es).toList.map (·.2))[i]?=some v) (fun i h=>SetIt h it S (.int 0 0) i n ep/\h.get? S=some o) where
 sub:=fun b hb=>by simp at hb;simp [hb]
 frame:=fun _ _ _ st hk=>⟨st.1.at fun o e=>hk it (by simp) o e,hk S (by simp) o st.2⟩
 item:=fun i s Q E hi st hQ=>by
  have hl:(pickOrder (w.params.setOrder S ep) es).size=n:=by rw [<-Array.length_toList,(Hn _ es).length_eq,Array.length_toList,hn]
  have hi':i<(pickOrder (w.params.setOrder S ep) es).size:=by rw [hl];exact hi
  refine lp (x:=((pickOrder (w.params.setOrder S ep) es)[i]).2) (nx:=0) st.1 st.2 hd hf hn (fun A E R h=>oz ht st.2 hd hf (by rw [Array.getElem?_eq_getElem hi'];exact h)) fun h' it' sb=>?_
  exact hQ _ h' s.toks (by rw [getElem?_map,Array.getElem?_toList,Array.getElem?_eq_getElem hi'];rfl) ⟨it',sb.extBut S o hne st.2⟩ fun b o hb e=>sb.extBut b o (fun z=>hb (by simp [z])) e
 done:=fun s Q E st hQ=>by
  have hl:(pickOrder (w.params.setOrder S ep) es).size=n:=by rw [<-Array.length_toList,(Hn _ es).length_eq,Array.length_toList,hn]
  exact oV hh st.1 st.2 hd hf hn (fun A E R h=>oz ht st.2 hd hf (by rw [Array.getElem?_eq_none (by omega)];exact h)) fun h' eb=>hQ h' s.toks fun b o hb e=>eb b o (fun z=>hb (by simp [z])) e
 self:=fun _ _ _ _ st hQ=>GP st.1 hQ
abbrev pz (t:SetTable) (i:Nat):Nat:=if i=0 then 0 else t.place.getD (i-1) 0+1
theorem ke (tb:Tb (cY w) t) (hf:t.fits es.size=true) (hi:i<=es.size):SetTable.below t.place (pz t i)=i:=by
 have hs:=ja hf
 unfold pz;by_cases c:i=0
 ·rw [if_pos c,c]
  exact m8
 ·rw [if_neg c,yW (by omega),m9 tb.rs (by omega)]
  omega
theorem vq (hh:A.handled=none) (ht:cY w=false) (tb:Tb (cY w) t) (hp:(!t.plain&&decide (es.size>1))=false) (hne:S≠it) (hd:o.data=.set es ep t) (hf:t.fits es.size=true) (hn:es.size=n) :
  Walks P w A it [it,S] [it] n (fun i v=>(es.toList.map (·.2))[i]?=some v) (fun i h=>SetIt h it S (.int (pz t i) 0) i n ep/\h.get? S=some o) where
 sub:=fun b hb=>by simp at hb;simp [hb]
 frame:=fun _ _ _ st hk=>⟨st.1.at fun o e=>hk it (by simp) o e,hk S (by simp) o st.2⟩
 item:=fun i s Q E hi st hQ=>by
  have hs:=ja hf
  have hi':i<es.size:=by omega
  have hi2:i<t.place.size:=by omega
  refine lp (x:=(es[i]).2) (nx:=pz t (i+1)) st.1 st.2 hd hf hn (fun A E R h=>oA ht tb hp st.2 hd hf ?_) fun h' it' sb=>?_
  ·rw [ke tb hf (by omega),Array.getElem?_eq_getElem hi',Array.getElem?_eq_getElem hi2]
   have e:pz t (i+1)=t.place[i]+1:=by
    unfold pz;rw [if_neg (by omega),Nat.add_sub_cancel,yW hi2]
   rw [e] at h;exact h
  ·exact hQ _ h' s.toks (by rw [getElem?_map,Array.getElem?_toList,Array.getElem?_eq_getElem hi'];rfl) ⟨it',sb.extBut S o hne st.2⟩ fun b o hb e=>sb.extBut b o (fun z=>hb (by simp [z])) e
 done:=fun s Q E st hQ=>by
  refine oV hh st.1 st.2 hd hf hn (fun A E R h=>oA ht tb hp st.2 hd hf ?_) fun h' eb=>hQ h' s.toks fun b o hb e=>eb b o (fun z=>hb (by simp [z])) e
  rw [ke tb hf (by omega),Array.getElem?_eq_none (by omega)]
  exact h
 self:=fun _ _ _ _ st hQ=>GP st.1 hQ
theorem nh {src:Source} {Q:Nat->Shared->Prop} (hn:n≠0) (h:Q (M.w.draws src (s.drawn.get src) % n) { s with drawn:=s.drawn.bump src }):wpAny M A (choose src n) Q E s:=fun _ _ _=>⟨hn,h⟩
theorem qk (n:Nat):∀(l:List α) (s:Shared) {Q:List α->Shared->Prop},l.length=n->(∀l' d,l'.Perm l->Q l' { s with drawn:=d })->wpAny M A (drawOrder n l) Q E s:=by
 induction n with
 | zero=>
  intro l s Q hl h;rw [List.length_eq_zero_iff.mp hl] at h ⊢;have:=h [] s.drawn (List.Perm.refl _)
  have e:s={ s with drawn:=s.drawn }:=by cases s;rfl
  unfold drawOrder;rw [e];exact Ky this
 | succ n ih=>
  intro l s Q hl h
  cases l with
  | nil=>cases hl
  | cons a l=>
   unfold drawOrder;refine Kx (nh (by simp) ?_)
   have lt:M.w.draws Source.order (s.drawn.get Source.order) % (a::l).length<(a::l).length:=Nat.mod_lt _ (by simp)
   generalize M.w.draws Source.order (s.drawn.get Source.order) % (a::l).length=j at lt
   rw [Ks lt];dsimp only;refine Kx (ih _ _ (by rw [List.length_eraseIdx_of_lt lt];omega) fun l' d pm=>Ky (h _ d ?_))
   refine (List.Perm.cons _ pm).trans ?_
   rw [List.eraseIdx_eq_take_drop_succ];have e:(a::l)=(a::l).take j++(a::l)[j]::(a::l).drop (j+1):=by rw [List.getElem_cons_drop,take_append_drop]
   conv=>rhs;rw [e]
   exact List.perm_middle.symm
end
section
variable {P:Program} {w:World} {A:Around} {E:Value->Shared->Prop} {s:Shared} {S it T:Addr} {o oT:Obj} {es:Array (Int×Value)} {ep c:Nat} {t:SetTable} {i n:Nat} {x:Value} {pl:List Nat} {Q:Option Value->Shared->Prop}
abbrev qL (pl:List Nat):Array Value:=(pl.map fun (i:Nat)=>rawInt i).toArray
theorem wO (hit:SetIt s.heap it S (.ref T) i n ep) (ho:s.heap.get? S=some o) (hd:o.data=.set es ep t) (hf:t.fits es.size=true) (hn:es.size=n) (hT:s.heap.get? T=some oT) (dT:oT.data=.seq (qL pl) c)
  {p:Nat} {e:Int×Value} (hp:pl[i]?=some p) (he:es[p]?=some e)
  (hQ:∀h',SetIt h' it S (.ref T) (i+1) n ep->Heap.SameBut it s.heap h'->Q (some e.2) { s with heap:=h' }):wpAny (model P w) A (pyNext (.ref it)) Q E s:=by
 obtain ⟨oi,gi,ci,di⟩:=hit;have ty:s.TypeIs (.ref it) "set_iterator":=⟨oi,gi,ci⟩
 unfold pyNext;refine Kx (wpAny_attempt (wpAny_callSpecial?_slot (name:=Str.ofString "__next__") ty slot_si_next (wpAny_call_entry slot_si_next ty Fz ?_ (Fp _))))
 unfold Builtin.«set_iterator.__next__»
 refine Kx (Ky ?_)
 refine Kx (wpAny_fieldsOf gi di ?_)
 dsimp only;refine Kx (wpAny_setEntries_of ho hd hf ?_)
 rw [if_neg (by rw [hn];simp)]
 refine Kx (wpAny_seqItems hT dT ?_)
 have e1:(qL pl)[Int.toNat (i:Int)]?=some (rawInt p):=by
  rw [Int.toNat_natCast,getElem?_toArray,getElem?_map,hp];rfl
 dsimp only;rw [e1];simp only [rawInt,Int.toNat_natCast]
 refine Kx ?_
 unfold setNextDrawn;refine Kx (wpAny_setState_of ho hd hf ?_)
 dsimp only;simp only [bne_self_eq_false,Bool.false_eq_true,if_false]
 rw [he];refine Ky ?_
 refine Kx (wpAny_setField gi di (by simp) (Ky ⟨e.2,rfl,Ky (hQ _ ?_ (Heap.SameBut.update ..))⟩))
 refine ⟨_,Heap.get?_update_self _ gi (Obj.isFreed_of_fields (Obj.data_mapFields di _)),(Obj.cls_mapFields ..).trans ci,?_⟩
 rw [Obj.data_mapFields di];simp [rawInt]
theorem AU (hh:A.handled=none) (hit:SetIt s.heap it S (.ref T) i n ep) (ho:s.heap.get? S=some o) (hd:o.data=.set es ep t) (hf:t.fits es.size=true) (hn:es.size=n) (hT:s.heap.get? T=some oT) (dT:oT.data=.seq (qL pl) c)
  (hp:pl[i]?=none) (hQ:∀h',Heap.ExtBut it s.heap h'->Q none { s with heap:=h' }):wpAny (model P w) A (pyNext (.ref it)) Q E s:=by
 obtain ⟨oi,gi,ci,di⟩:=hit;have ty:s.TypeIs (.ref it) "set_iterator":=⟨oi,gi,ci⟩
 unfold pyNext;refine Kx (wpAny_attempt (wpAny_callSpecial?_slot (name:=Str.ofString "__next__") ty slot_si_next (wpAny_call_entry slot_si_next ty Fz ?_ (Fp _))))
 unfold Builtin.«set_iterator.__next__»
 refine Kx (Ky ?_)
 refine Kx (wpAny_fieldsOf gi di ?_)
 dsimp only;refine Kx (wpAny_setEntries_of ho hd hf ?_)
 rw [if_neg (by rw [hn];simp)]
 refine Kx (wpAny_seqItems hT dT ?_)
 have e1:(qL pl)[Int.toNat (i:Int)]?=none:=by
  rw [Int.toNat_natCast,getElem?_toArray,getElem?_map,hp];rfl
 dsimp only;rw [e1];dsimp only;refine Kx (wpAny_setField gi di (by simp) ?_)
 have g1:=Heap.get?_update_self (Obj.mapFields (·.setIfInBounds 0 (rawInt 0))) gi (Obj.isFreed_of_fields (Obj.data_mapFields di _))
 have d1:=Obj.data_mapFields di (·.setIfInBounds 0 (rawInt 0))
 refine Kx (wpAny_setField g1 d1 (by simp) ?_)
 refine Kx ?_
 simp only [newExc,newTuple]
 refine Kx (wpAny_newObj_type ?_ (by size_fits))
 refine Kx (m:=firstArgMember _ _) (wpAny_of_eq (a:=Value.none) (by first | rfl | (simp only [firstArgMember];rfl)) ?_)
 refine wpAny_newObj_type ?_ (by size_fits)
 simp only [raiseNew]
 refine Kx (wpAny_handled ?_)
 rw [show A.in1.handled=none from hh];refine Kx (Ky (wpAny_throw ?_))
 refine Kx (wpAny_isInstance (T := "StopIteration") (b:=true) ⟨_,Heap.get?_push_size _ rfl,rfl⟩ isSubtype_stop ?_)
 exact Ky (hQ _ ((((Heap.SameBut.update ..).trans (Heap.SameBut.update ..)).extBut.push _).push _))
theorem vt (hh:A.handled=none) (hne:S≠it) (hneT:T≠it) (hd:o.data=.set es ep t) (hf:t.fits es.size=true) (hn:es.size=n) (dT:oT.data=.seq (qL pl) c) (hl:pl.length=n) (hm:∀p∈pl,p<n) :
  Walks P w A it [it,S,T] [it] n (fun i v=>(pl.map fun p=>(es.getD p (0,.none)).2)[i]?=some v) (fun i h=>SetIt h it S (.ref T) i n ep/\h.get? S=some o/\h.get? T=some oT) where
 sub:=fun b hb=>by simp at hb;simp [hb]
 frame:=fun _ _ _ st hk=>⟨st.1.at fun o e=>hk it (by simp) o e,hk S (by simp) o st.2.1,hk T (by simp) oT st.2.2⟩
 item:=fun i s Q E hi st hQ=>by
  have hi':i<pl.length:=by omega
  have hp:pl[i]<es.size:=by
   rw [hn];exact hm _ (getElem_mem hi')
  refine wO st.1 st.2.1 hd hf hn st.2.2 dT (Ks hi') (Array.getElem?_eq_getElem hp) fun h' it' sb=>?_
  refine hQ _ h' s.toks ?_ ⟨it',sb.extBut S o hne st.2.1,sb.extBut T oT hneT st.2.2⟩ fun b o hb e=>sb.extBut b o (fun z=>hb (by simp [z])) e
  rw [getElem?_map,Ks hi'];simp [Array.getD,hp]
 done:=fun s Q E st hQ=>AU hh st.1 st.2.1 hd hf hn st.2.2 dT (getElem?_eq_none (by omega)) fun h' eb=>hQ h' s.toks fun b o hb e=>eb b o (fun z=>hb (by simp [z])) e
 self:=fun _ _ _ _ st hQ=>GP st.1 hQ
end
section
variable {P:Program} {w:World} {A:Around} {E:Value->Shared->Prop} {s:Shared} {S:Addr} {o:Obj} {es:Array (Int×Value)} {ep:Nat} {t:SetTable} {Q:Value->Shared->Prop}
theorem gV (es:Array (Int×Value)):(List.range es.size).map (fun p=>(es.getD p (0,.none)).2)=es.toList.map (·.2):=by
 apply List.ext_getElem
 ·simp
 ·intro i h1 h2
  have hi:i<es.size:=by simpa using h1
  simp [Array.getD,hi]
theorem tV (hh:A.handled=none) (ho:s.heap.get? S=some o) (hc:o.cls=.type "set") (hd:o.data=.set es ep t) (hf:t.fits es.size=true) (hb:es.size<scanBound) (tb:Tb (cY w) t)
  (h:∀(h':Heap) (dr:Drawn) (it:Addr) (fp:List Addr) (us:List Value) (St:Nat->Heap->Prop),(∀b o,s.heap.get? b=some o->h'.get? b=some o)->us.Perm (es.toList.map (·.2))->s.heap.objs.size<=it->(∀b∈fp,b<h'.objs.size/\(b=S\/s.heap.objs.size<=b)) ->
   Walks P w A it fp [it] es.size (fun i v=>us[i]?=some v) St->St 0 h'->Q (.ref it) { s with heap:=h',drawn:=dr }) :
  wpAny (model P w) A (pyIter (.ref S)) Q E s:=by
 have ty:s.TypeIs (.ref S) "set":=⟨o,ho,hc⟩
 have lS:S<s.heap.objs.size:=Heap.lt_size ho
 refine wpAny_pyIter_slot ty F.slot_set_iter (wpAny_call_entry F.slot_set_iter ty jF ?_ (F.args_set_iter_1 _))
 unfold Builtin.«frozenset.__iter__»
 refine Kx (Ky ?_)
 refine Kx ?_
 unfold Builtin.Frozenset.sizeOf;refine Kx (wpAny_setEntries_of ho hd hf (Ky ?_))
 have hsz:es.size<=sizeLine:=Nat.le_of_lt (Nat.lt_of_lt_of_le hb (by decide))
 have fin:∀(first:Value) (s':Shared) (h1:s'.heap.get? S=some o),Q (.ref s'.heap.objs.size) { s' with heap:=s'.heap.push { cls:=.type "set_iterator",data:=.fields #[first,.int 0 0,.ref S,.int es.size 0,.int ep 0] } } ->
   wpAny (model P w) A.in1 (do
    let e <-setEpoch S
    let r <-newFields "set_iterator" [first,rawInt 0,Value.ref S,rawInt ↑es.size,rawInt ↑e]
    ret r) (fun fin s'=>∃v,fin=Fin.done (Flow.ret v)/\∃T' r,s'.TypeIs v T'/\typeLookup (Value.type T') (Str.ofString "__next__")=pure (some r)/\Q v s') E s':=by
  intro first s' h1 q
  refine Kx ?_
  unfold setEpoch;refine Kx (wpAny_setState_of h1 hd hf (Ky ?_))
  refine Kx ?_
  unfold newFields;refine wpAny_newObj_type (Ky ⟨_,rfl, "set_iterator",_,⟨_,Heap.get?_push_size _ rfl,rfl⟩,slot_si_next.lookup,?_⟩) (by size_fits)
  exact q
 refine Kx ?_
 unfold setDrawn;refine Kx (wpAny_setState_of ho hd hf ?_)
 dsimp only;refine Kx ?_
 unfold setsByText;refine Kx (wpAny_askSetting (Ky ?_))
 refine Ky ?_
 show wpAny (model P w) A.in1 (if (!cY w&&(!t.plain&&decide (es.size>1)))=true then _ else _) _ E s
 by_cases hdr:(!cY w&&(!t.plain&&decide (es.size>1)))=true
 ·rw [if_pos hdr]
  refine Kx (qk es.size (List.range es.size) s (by simp) fun pl dr pm=>?_)
  have hl:pl.length=es.size:=by rw [pm.length_eq,length_range]
  refine Kx (wpAny_newTuple ?_ (by rw [length_map,hl];exact hsz))
  refine fin _ _ (Kz _ ho) ?_
  have gT:(s.heap.push { cls:=.type "tuple",data:=.seq (qL pl) }).get? s.heap.objs.size=some { cls:=.type "tuple",data:=.seq (qL pl) }:=Heap.get?_push_size _ rfl
  have eI:(s.heap.push { cls:=.type "tuple",data:=.seq (qL pl) }).objs.size=s.heap.objs.size+1:=Heap.size_push ..
  have gI:=Heap.get?_push_size (o:={ cls:=.type "set_iterator",data:=.fields #[.ref s.heap.objs.size,.int 0 0,.ref S,.int es.size 0,.int ep 0] }) (s.heap.push { cls:=.type "tuple",data:=.seq (qL pl) }) rfl
  have W:=vt (P:=P) (w:=w) (A:=A) (it:=(s.heap.push { cls:=.type "tuple",data:=.seq (qL pl) }).objs.size) (S:=S) (T:=s.heap.objs.size) (o:=o) (t:=t) (ep:=ep) (pl:=pl) (c:=0) hh (by rw [eI];exact Nat.ne_of_lt (Nat.lt_succ_of_lt lS)) (by rw [eI];exact Nat.ne_of_lt (Nat.lt_succ_self _)) hd hf rfl (oT:={ cls:=.type "tuple",data:=.seq (qL pl) }) rfl hl fun p hp=>by simpa using pm.mem_iff.mp hp
  refine h _ dr _ [(s.heap.push { cls:=.type "tuple",data:=.seq (qL pl) }).objs.size,S,s.heap.objs.size] (pl.map fun p=>(es.getD p (0,.none)).2) _ (fun b o e=>Kz _ (Kz _ e)) ?_ ?_ ?_ W ⟨⟨_,gI,rfl,rfl⟩,Kz _ (Kz _ ho),Kz _ gT⟩
  ·rw [<-gV]
   exact pm.map _
  ·show s.heap.objs.size<=(s.heap.push _).objs.size
   rw [Heap.size_push];omega
  ·intro b hb
   show b<((s.heap.push _).push _).objs.size/\_
   rw [Heap.size_push,Heap.size_push];simp only [mem_cons,not_mem_nil,or_false] at hb
   rcases hb with rfl | rfl | rfl
   ·exact ⟨by rw [eI];exact Nat.lt_succ_self _,.inr (by rw [eI];exact Nat.le_succ _)⟩
   ·exact ⟨Nat.lt_succ_of_lt (Nat.lt_succ_of_lt lS),.inl rfl⟩
   ·exact ⟨Nat.lt_succ_of_lt (Nat.lt_succ_self _),.inr (KA _)⟩
 ·rw [if_neg hdr]
  refine Kx (Ky ?_)
  refine fin _ _ ho ?_
  have kp:∀b o,s.heap.get? b=some o->(s.heap.push { cls:=.type "set_iterator",data:=.fields #[.int 0 0,.int 0 0,.ref S,.int es.size 0,.int ep 0] }).get? b=some o:=fun b o e=>Kz _ e
  have fpl:∀b∈[s.heap.objs.size,S],b<(s.heap.push { cls:=.type "set_iterator",data:=.fields #[.int 0 0,.int 0 0,.ref S,.int es.size 0,.int ep 0] }).objs.size/\(b=S\/s.heap.objs.size<=b):=by
   intro b hb;rw [Heap.size_push];simp only [mem_cons,not_mem_nil,or_false] at hb
   rcases hb with rfl | rfl
   ·exact ⟨Nat.lt_succ_self _,.inr (KA _)⟩
   ·exact ⟨Nat.lt_succ_of_lt lS,.inl rfl⟩
  have si:SetIt (s.heap.push { cls:=.type "set_iterator",data:=.fields #[.int 0 0,.int 0 0,.ref S,.int es.size 0,.int ep 0] }) s.heap.objs.size S (.int 0 0) 0 es.size ep:=⟨_,Heap.get?_push_size _ rfl,rfl,rfl⟩
  by_cases ht:cY w=true
  ·exact h _ s.drawn _ [s.heap.objs.size,S] _ _ kp ((Hn (w.params.setOrder S ep) es).map _) (KA _) fpl (vp (o:=o) hh ht (Nat.ne_of_lt lS) hd hf rfl) ⟨si,kp S o ho⟩
  ·have ht':cY w=false:=by simpa using ht
   rw [ht'] at hdr;have hp:(!t.plain&&decide (es.size>1))=false:=by simpa using hdr
   exact h _ s.drawn _ [s.heap.objs.size,S] _ _ kp (List.Perm.refl _) (KA _) fpl (vq (o:=o) hh ht' tb hp (Nat.ne_of_lt lS) hd hf rfl) ⟨si,kp S o ho⟩
end
section
variable {P:Program} {w:World} {A:Around} {E:Value->Shared->Prop} {s:Shared} {r:Addr}
theorem t4 {Q:Bool->Shared->Prop} (hT:s.TypeIs (.ref r) "set") (h:Q false s):wpAny (model P w) A (Builtin.List.listLengthHint (.ref r)) Q E s:=by
 unfold Builtin.List.listLengthHint;refine Kx (wpAny_specialOf hT PySem.F.slot_set_len.lookup ?_)
 generalize aC:("set.__len__":String)=id0
 wp_delta
 rw [show splitId id0=some ("set", "__len__") from by subst aC;decide +kernel]
 subst aC;refine Kx (wpAny_isInstance (T := "set") (b:=true) hT (by rw [isSubtype_type];kernel_rfl) ?_)
 refine wpAny_ite_split (fun hab=>absurd hab (by decide)) (fun _=>?_)
 refine wpAny_ite_split (fun _=>?_) (fun hab=>absurd (by decide +kernel) hab)
 refine Kx (wpAny_typeOf hT ?_)
 exact Ky h
variable {o:Obj} {es:Array (Int×Value)} {ep:Nat} {t:SetTable}
theorem xc {R:Result->Shared->Prop} (hh:A.handled=none) (ho:s.heap.get? r=some o) (hc:o.cls=.type "set") (hd:o.data=.set es ep t) (hf:t.fits es.size=true) (hb:es.size<scanBound) (tb:Tb (cY w) t) (S:Addr) (hSr:S≠r) (res:Value) (hS:s.heap.get? S=some { cls:=.type "list",data:=.seq #[] 0 })
  (hR:∀h' tk dr acc' c',(∀b o,b≠S->s.heap.get? b=some o->h'.get? b=some o)->h'.get? S=some { cls:=.type "list",dict:=none,data:=.seq acc' c',slots:=#[] }->acc'.toList.Perm (es.toList.map (·.2))->R (.ok (.ret res)) { s with heap:=h',toks:=tk,drawn:=dr }) :
  wpAny (model P w) A.in1 (Builtin.List.listExtendWith (.ref S) (.ref r) res)
   (fun fin s'=>match fin with | .done f=>R (.ok f) s' | .again c'=>c'.quiet=true/\codeAny (model P w) A c' R s') (fun e s'=>R (.error e) s') s:=by
 have lS:=Heap.lt_size hS
 have hsz:es.size<=sizeLine:=Nat.le_of_lt (Nat.lt_of_lt_of_le hb (by decide))
 unfold Builtin.List.listExtendWith;refine Kx (wpAny_typeOf (T := "set") ⟨o,ho,hc⟩ ?_)
 have h1:Builtin.List.listSameRef (.ref S) (.ref r)=false:=by simp [Builtin.List.listSameRef,hSr]
 have n1:(Value.type "set"==Value.type "list")=false:=by decide
 have n2:(Value.type "set"==Value.type "tuple")=false:=by decide
 simp only [h1,n1,n2,Bool.or_false,Bool.false_eq_true,if_false]
 refine Kx (tV hh ho hc hd hf hb tb fun h' dr it fp us St kp pm lI hfp W st=>?_)
 have hSf:S∉fp:=fun hm=>by
  rcases (hfp S hm).2 with e | e
  ·exact hSr e
  ·exact absurd lS (Nat.not_lt_of_le e)
 have hS₁:=kp S _ hS
 have key:∀(h2:Heap) (c₁:Nat),St 0 h2->(∀b o,b≠S->s.heap.get? b=some o->h2.get? b=some o) ->
   h2.get? S=some { cls:=.type "list",data:=.seq #[] c₁ }->codeAny (model P w) A (.builtin "list.extend.loop" ⟨[.ref S,.ref it,res],[]⟩) R { s with heap:=h2,drawn:=dr }:=by
  intro h2 c₁ hst hk hS₁;refine codeAny_extend_loopS W.toS hsz S hSf res es.size 0 _ #[] c₁ rfl (Nat.zero_le _) hst hS₁ (ItemsOf.nil _) fun s' acc' c' hm hS' hacc=>?_
  have e:acc'.toList=us:=by
   apply ext_getElem?
   intro i;have lu:us.length=es.size:=by rw [pm.length_eq,length_map,Array.length_toList]
   by_cases hi:i<acc'.size
   ·have:=hacc.2 i acc'[i] (Array.getElem?_eq_getElem hi)
    rw [Array.getElem?_toList,Array.getElem?_eq_getElem hi,this]
   ·rw [Array.getElem?_toList,Array.getElem?_eq_none (by omega),getElem?_eq_none (by have:=hacc.1;omega)]
  rw [Moved.eq_with hm];refine hR s'.heap s'.toks dr acc' c' (fun b o hb e=>hm.heap b o (fun hmem=>?_) (hk b o hb e)) hS' (by rw [e];exact pm)
  rcases Kr hmem with e' | hmem
  ·exact hb e'
  ·exact absurd (Heap.lt_size e) (by rw [List.mem_singleton.mp hmem];exact Nat.not_lt_of_le lI)
 refine Kx (wpAny_holding (t4 (r:=r) ⟨o,kp r o ho,hc⟩ ?_))
 refine wpAny_ite_split (fun _=>?_) (fun _=>Ky ⟨plainId_quiet PySem.F.plain_extend_loop _,key _ 0 st (fun b o _ e=>kp b o e) hS₁⟩)
 refine Kx (wpAny_rule ?_)
 refine Kx ?_
 show wpAny _ _ (updateSeq S (·.push .none) >>= fun _=>updateSeq S (·.pop)) _ _ _
 refine Kx (wpAny_updateSeq hS₁ rfl ?_)
 have hS₂:=Heap.get?_update_self (Obj.mapSeq (·.push Value.none)) hS₁ rfl
 refine wpAny_updateSeq (hz:=by seq_fits) hS₂ rfl ?_
 have hS₃:=Heap.get?_update_self (Obj.mapSeq (·.pop)) hS₂ rfl
 refine Ky ⟨plainId_quiet PySem.F.plain_extend_loop _,key _ _ ?_ (fun b o hb e=>?_) hS₃⟩
 ·refine W.frame 0 _ _ st fun b hb o e=>?_
  have hbS:b≠S:=fun h=>hSf (h▸hb)
  exact (Heap.get?_update_other _ _ (Ne.symm hbS)).trans ((Heap.get?_update_other _ _ (Ne.symm hbS)).trans e)
 ·exact (Heap.get?_update_other _ _ (Ne.symm hb)).trans ((Heap.get?_update_other _ _ (Ne.symm hb)).trans (kp b o e))
theorem lQ {R:List Value->Shared->Prop} (hh:A.handled=none) (ho:s.heap.get? r=some o) (hc:o.cls=.type "set") (hd:o.data=.set es ep t) (hf:t.fits es.size=true) (hb:es.size<scanBound) (tb:Tb (cY w) t)
  (h:∀(h':Heap) (tk:Nat) (dr:Drawn) (us:List Value),(∀b o,s.heap.get? b=some o->h'.get? b=some o)->us.Perm (es.toList.map (·.2))->R us { s with heap:=h',toks:=tk,drawn:=dr }) :
  wpAny (model P w) A (collect (.ref r)) R E s:=by
 have lr:=Heap.lt_size ho
 unfold collect;refine Kx (wpAny_runValue (codeAny_builtin entry_proto_collect' ?_))
 rw [Around.under_plainId PySem.F.plain_proto_collect _];show wpAny _ A.in1 (newList [] >>= fun l=>again (.builtin "list.__iadd__" ⟨[l,.ref r],[]⟩)) _ _ s
 refine Kx (wpAny_newObj_type ?_)
 refine Ky ⟨plainId_quiet PySem.F.plain_list_iadd _,codeAny_builtin entry_list_iadd' ?_⟩
 rw [Around.under_plainId PySem.F.plain_list_iadd _];have hS₁:(s.heap.push { cls:=.type "list",data:=.seq ([]:List Value).toArray }).get? s.heap.objs.size=some { cls:=.type "list",data:=.seq #[] }:=Heap.get?_push_size _ rfl
 show wpAny _ A.in1 (Builtin.List.listExtendWith (.ref s.heap.objs.size) (.ref r) (.ref s.heap.objs.size)) _ _ _
 have key:=xc (P:=P) (w:=w) (A:=A) (s:={ s with heap:=s.heap.push { cls:=.type "list",data:=.seq ([]:List Value).toArray } })
  (R:=fun (q:Result) (s':Shared)=>∃(h':Heap) (tk:Nat) (dr:Drawn) (acc':Array Value) (c':Nat),q=.ok (.ret (.ref s.heap.objs.size))/\s'={ s with heap:=h',toks:=tk,drawn:=dr } /\
   (∀b o,s.heap.get? b=some o->h'.get? b=some o)/\h'.get? s.heap.objs.size=some { cls:=.type "list",dict:=none,data:=.seq acc' c',slots:=#[] }/\acc'.toList.Perm (es.toList.map (·.2)))
  hh (Kz _ ho) hc hd hf hb tb s.heap.objs.size (Nat.ne_of_gt lr) (.ref s.heap.objs.size) hS₁
  (fun h' tk dr acc' c' hk hS' hacc=>⟨h',tk,dr,acc',c',rfl,rfl,fun b o e=>hk b o (Nat.ne_of_lt (Heap.lt_size e)) (Kz _ e),hS',hacc⟩)
 refine wpAny_mono key (fun fin s' x=>?_) fun e s' x=>?_
 ·cases fin with
  | done f=>
   obtain ⟨h',tk,dr,acc',c',e,rfl,hk,hS',hacc⟩:=x
   cases e;show wpAny _ A (load s.heap.objs.size >>= _) _ _ _
   refine Kx (wpAny_load hS' ?_)
   exact Ky (h h' tk dr acc'.toList hk hacc)
  | again c₁=>
   refine ⟨x.1,codeAny_mono x.2 fun q s₂ y=>?_⟩
   obtain ⟨h',tk,dr,acc',c',rfl,rfl,hk,hS',hacc⟩:=y;show wpAny _ A (load s.heap.objs.size >>= _) _ _ _
   refine Kx (wpAny_load hS' ?_)
   exact Ky (h h' tk dr acc'.toList hk hacc)
 ·obtain ⟨_,_,_,_,_,e',_⟩:=x
  cases e'
end
def fD (ns:List Int):List Int:=firstMet (fun i=>ns.getD i 0) ns.length
theorem fN:∀(l m:List Int),l.Nodup->(∀x∈l,x∈m)->m.length=l.length->m.Perm l
 | [],m,_,_,h=>by rw [List.length_eq_zero_iff.mp h]
 | a::l,m,nd,hm,h=>by
  have ha:a∈m:=hm a mem_cons_self
  obtain ⟨na,nl⟩:=List.nodup_cons.mp nd;have ih:=fN l (m.erase a) nl (fun x hx=>(List.mem_erase_of_ne (fun e:x=a=>na (e▸hx))).mpr (hm x (Ku _ hx))) (by rw [List.length_erase_of_mem ha,h,length_cons];omega)
  exact (List.perm_cons_erase ha).trans (ih.cons a)
theorem Hl (val:Nat->Int):∀i,(firstMet val i).Nodup
 | 0=>nodup_nil
 | i+1=>by
  rw [firstMet_succ];unfold step_dedup;split
  ·exact Hl val i
  ·rename_i h
   rw [List.nodup_append];refine ⟨Hl val i,by simp,fun a ha b hb e=>h ?_⟩
   rw [mem_singleton] at hb;subst hb e;simpa using ha
theorem Ht (ns:List Int):(fD ns).Nodup:=Hl _ _
theorem ddp_mem {k:Int}:k∈fD ns↔k∈ns:=by
 have:=firstMet_any (fun i=>ns.getD i 0) ns.length k
 have e:(List.range ns.length).map (fun i=>ns.getD i 0)=ns:=by
  apply List.ext_getElem
  ·simp
  ·intro i h1 h2
   simp [List.getD,h2]
 rw [e] at this;unfold fD;rw [<-any_eq_true (p:=(·==k)) |>.trans ⟨fun ⟨x,h,e⟩=>by rwa [<-eq_of_beq e],fun h=>⟨k,h,by simp⟩⟩,this]
 exact List.any_eq_true.trans ⟨fun ⟨x,h,e⟩=>by rwa [<-eq_of_beq e],fun h=>⟨k,h,by simp⟩⟩
theorem i5 {P:Program} {w:World}:∀(us:List Value),(∀u∈us,∃k,(intKind P w).is k u=true)->∃ns,IntsAre us ns
 | [],_=>⟨[],.nil⟩
 | u::us,h=>by
  obtain ⟨k,e⟩:=h u mem_cons_self;obtain ⟨t,rfl⟩:=Value.isInt_shape e;obtain ⟨ns,x⟩:=i5 us fun v hv=>h v (Ku _ hv)
  exact ⟨_,.cons _ _ x⟩
theorem lq {P:Program} {w:World} {k:Int}:∀{us:List Value} {ns:List Int},IntsAre us ns->(∃u∈us,(intKind P w).is k u=true)->k∈ns
 | _,_,.nil,⟨u,hu,_⟩=>by cases hu
 | _,_,.cons i t x,⟨u,hu,e⟩=>by
  rcases Kr hu with rfl | hu
  ·obtain ⟨t',e'⟩:=Value.isInt_shape (show Value.isInt k (Value.int i t)=true from e)
   cases e'
   exact mem_cons_self
  ·exact Ku _ (lq x ⟨u,hu,e⟩)
theorem lx:∀{us:List Value} {ns:List Int},IntsAre us ns->us.length=ns.length
 | _,_,.nil=>rfl
 | _,_,.cons _ _ x=>by rw [length_cons,length_cons,lx x]
theorem L2Inv.drawn {X:Cx} {pins:List (Addr×Obj)} {U:List (Option V)} {H:Hp} {s:Shared} (I:L2.Inv X pins U H s) (d:Drawn):L2.Inv X pins U H { s with drawn:=d }:=
 ⟨I.ok,I.os,I.bare,I.base,I.loc,I.cell,I.free,I.freeC,I.pin,I.hok,I.len⟩
theorem Ei:bootBuiltins "set"=some (.type "set"):=by decide +kernel
def Jr (K:Fg) (ta:TA):TE:=fun U H Q=>ta U H fun vs H1=>∃(p:Addr) (ns:List Int),vs=[.ref p]/\SqL K H1 p (ns.map V.int)/\ns.length<4000/\(fD ns).length<64/\∀l,H1 l=none->Q (.ref l) (upd H1 l (.lst ((PySem.W.sortI (fD ns)).map V.int)))
theorem mF {X:Cx} {a:Expr} {ta:TA} {p pos:Pos} (hg:Gl X "sorted") (hm:X.mg "sorted"=none) (hg2:Gl X "set") (hm2:X.mg "set"=none) (hc:X.calm=true) (ha:PA X [a] ta) (hs:starEach [a] X.env=[(false,eval a X.env)])
  (hs1:starEach [.Call (.Name "set" p2) [a] [] pos2] X.env=[(false,eval (.Call (.Name "set" p2) [a] [] pos2) X.env)]):PE X (.Call (.Name "sorted" p) [.Call (.Name "set" p2) [a] [] pos2] [] pos) (Jr X.K ta):=by
 intro pins s U H Q I h;refine wpAny_Call_Name_kw (yK I hg hm uB (PyProof.Rows.callWith_builtin1 ?_ hs1 rfl))
 rw [hs1];show wpAny _ _ (spliced ((false,eval (.Call (.Name "set" p2) [a] [] pos2) X.env)::[])) _ _ s
 refine Calls.spliced_cons (Call_ (yK I hg2 hm2 Ei (PyProof.Rows.callWith_type1 (bg (ha pos2 pins s U H _ I h) fun us s1 ⟨vs,H1,I1,r1,q1⟩=>?_) hs rfl)))
 obtain ⟨pa,ns,e,hS,q1,q2,q⟩:=q1;subst e;obtain ⟨u,rfl,ru⟩:=r1.one
 cases ru;obtain ⟨its,r,pl,hz⟩:=I1.list hS;have hI:=oN r
 have hl:its.length=ns.length:=by rw [<-r.length,length_map]
 have hl':its.toArray.size=ns.length:=by rw [size_toArray,hl]
 refine mZ (ns:=ns) (I.ok.hd hc) pl.isList (by simpa using hI) (by rw [hl'];have:scanBound=4096:=rfl;omega) fun h1 tk1 st kp1=>?_
 rw [hl'] at st;refine Calls.spliced_nil ?_
 have I2:L2.Inv X pins U H1 { s1 with heap:=h1,toks:=tk1 }:=I1.kept (t':=tk1) kp1
 obtain ⟨o,es,ep,t,ho,hex,hd,hel,hmem,hb,hf,hn,tb⟩:=st;refine Calls.call_function_entry kind_sorted plain_sorted entry_sorted (args_sorted1 _) ?_
 unfold Builtin.«sorted»
 refine Kx (m:=checkCount "sorted" 1 1 _) (Ky ?_)
 refine Kx (lQ (I.ok.hd hc) ho hex.1 hd hf hb tb fun h' tk dr us hk pm=>?_)
 have hlu:us.length=(fD ns).length:=by
  rw [pm.length_eq,length_map,Array.length_toList,hn];rfl
 obtain ⟨zs,hZ⟩:=i5 (P:=X.prog) (w:=X.w) us fun u hu=>by
  obtain ⟨e,he,rfl⟩:=List.mem_map.mp (pm.mem_iff.mp hu);obtain ⟨k,hk,_⟩:=(hel e he).1;exact ⟨k,hk⟩
 have hpz:zs.Perm (fD ns):=by
  refine fN (fD ns) zs (Ht ns) (fun k hk=>?_) ?_
  ·obtain ⟨e,he,hx⟩:=(hmem k).mp (List.any_eq_true.mpr ⟨k,hk,by simp⟩)
   exact lq (P:=X.prog) (w:=X.w) hZ ⟨e.2,pm.mem_iff.mpr (List.mem_map.mpr ⟨e,he,rfl⟩),hx⟩
  ·rw [<-hlu,lx hZ]
 have hb2:=pw (n:=(fD ns).length) (by omega)
 refine Kx (wpAny_newList ?_ (by rw [hlu];omega))
 have hoL:(h'.push { cls:=.type "list",data:=.seq us.toArray }).get? h'.objs.size=some (seqObj "list" us.toArray 0):=Heap.get?_push_size _ rfl
 refine Kx (wpAny_holding (wpAny_call_entry slot_list_sort ⟨_,hoL,rfl⟩ entry_list_sort (list_sort_tree hoL hZ (by rw [hlu];exact q2) fun out ns' a1 a2 a3=>⟨_,rfl,?_⟩) (args_list_sort _)))
 have e:=PySem.W.eq_sortI (a2.trans hpz) a3
 subst e;have hlen:(PySem.W.sortI (fD ns)).length=(fD ns).length:=(PySem.W.sortI_perm _).length_eq
 obtain ⟨n,ho'⟩:=sortedHeap_at (out:=out) hoL
 have I3:L2.Inv X pins U H1 { s1 with heap:=h',toks:=tk,drawn:=dr }:=L2Inv.drawn (I2.kept (t':=tk) hk) dr
 have kk:∀b o,h'.get? b=some o->(sortedHeap (h'.push { cls:=.type "list",data:=.seq us.toArray }) h'.objs.size us out).get? b=some o:=fun b o e=>by
  have hlt:=Heap.lt_size e
  rw [sortedHeap_old (Nat.ne_of_lt hlt) (by rw [Heap.size_push];exact Nat.lt_succ_of_lt hlt)]
  exact Kz _ e
 exact Ky ⟨_,rfl,.ref h'.objs.size,upd H1 h'.objs.size (.lst ((PySem.W.sortI (fD ns)).map V.int)),I3.laid (t':=tk) kk (KA _) ⟨by rw [length_map,hlen];omega,out.toList,n,nC a1,by simpa [seqObj] using ho'⟩,rfl,q _ (I3.hok.fresh (KA _))⟩
section
variable {K:Fg} {W:XW} {U:St} {H:Hp} {Q:VK} {fa:F1} {fl:FL}
def yR (fl:FL):F1:=fun Γ=>(fl Γ).bind fun ps Γ'=>match sortArg (ps.map (·.d)) with
 | some ns=>if ns.length<4000/\(fD ns).length<64 then .ok ⟨.lst .leaf,.list ((PySem.W.sortI (fD ns)).map .int)⟩ Γ' else .no
 | none=>.no
theorem sf (h:tE K W (yR fl) U H Q):Jr K (tA K W fl) U H Q:=by
 obtain ⟨He,O,Fs,Γ,E,h⟩:=h;refine ⟨He,O,Fs,Γ,E,?_⟩
 unfold yR at h
 cases e:fl Γ with
 | er c Γ'=>rw [e] at h;exact h
 | no=>rw [e] at h;exact h
 | ok ps Γ1=>
  rw [e] at h;intro vs H1 Gs Fs1 A;have r:=A.reps
  have h:Wants K W He O Fs H U Q (match sortArg (ps.map (·.d)) with | some ns=>if ns.length<4000/\(fD ns).length<64 then .ok ⟨.lst .leaf,.list ((PySem.W.sortI (fD ns)).map .int)⟩ Γ1 else .no | none=>.no):=h
  cases ei:sortArg (ps.map (·.d)) with
   | none=>rw [ei] at h;exact h.elim
   | some ns=>
    rw [ei] at h;rw [mz ei] at r;have h:Wants K W He O Fs H U Q (if ns.length<4000/\(fD ns).length<64 then .ok ⟨.lst .leaf,.list ((PySem.W.sortI (fD ns)).map .int)⟩ Γ1 else .no):=h
    by_cases hn:ns.length<4000/\(fD ns).length<64
    ·rw [if_pos hn] at h
     have hl:=r.1
     match vs,hl with
     | [v],_=>
      have q:=r.2 0 v (.list (ns.map .int)) rfl rfl
      cases q with
      | @lst p ws _ hq hwl hw=>
       have ew:ws=ns.map V.int:=by
        apply ext_getElem?
        intro i;by_cases hi:i<ws.length
        ·have hi2:i<ns.length:=by rw [length_map] at hwl;omega
         have q:=hw i (ws[i]'hi) (.int (ns[i]'hi2)) (Ks _) (by rw [getElem?_map,Ks hi2];rfl)
         rw [Ks hi,getElem?_map,Ks hi2];generalize ws[i]'hi=u at q
         cases q;rfl
        ·rw [getElem?_eq_none (by omega),getElem?_eq_none (by rw [length_map] at hwl ⊢;omega)]
       rw [ew] at hq;refine ⟨p,ns,rfl,hq,hn.1,hn.2,fun l hl=>h _ _ _ _ (A.newSc E.ndO hl (by simp) fun i v d a1 a2=>?_)⟩
       rw [getElem?_map] at a1 a2
       cases e3:(PySem.W.sortI (fD ns))[i]? with
       | none=>rw [e3] at a1;cases a1
       | some z=>
        rw [e3] at a1 a2
        cases a1
        cases a2;exact .int z
    ·rw [if_neg hn] at h;exact h.elim
end
section
variable {X:Cx} {N gl:List Str} {vs cs ls lo gs:List Nat} {W:XW} {a:Expr} {p pos:Pos} {fl:FL}
theorem cb_sortSet (S:Cp X N gl vs cs ls lo gs) (j k:Nat) (hj:gl[j]?=some ("sorted":Str)) (hg:gs.contains j=true) (hm:X.mg "sorted"=none) (hk:gl[k]?=some ("set":Str)) (hg2:gs.contains k=true) (hm2:X.mg "set"=none) (ha:PA X [a] (tA X.K W fl)) (hs:starEach [a] X.env=[(false,eval a X.env)])
  (hs1:starEach [.Call (.Name "set" p2) [a] [] pos2] X.env=[(false,eval (.Call (.Name "set" p2) [a] [] pos2) X.env)]):PE X (.Call (.Name "sorted" p) [.Call (.Name "set" p2) [a] [] pos2] [] pos) (tE X.K W (yR fl)):=
 aZ (mF (S.g hj hg).1 hm (S.g hk hg2).1 hm2 S.calm ha hs hs1) fun _ _ _=>sf
end
end T
namespace TQ
open PySem PySem.Spec L2 T
open PyProof.Rows hiding St
section
variable {X:Cx} {N gl:List Str} {vs cs ls lo gs:List Nat} {W:XW} {a:Expr} {p pos:Pos} {fl:FL}
theorem jo {p2 pos2:Pos} (S:Cp X N gl vs cs ls lo gs) (j k:Nat) (hj:gl[j]?=some ("sorted":Str)) (hg:gs.contains j=true) (hm:X.mg "sorted"=none) (hk:gl[k]?=some ("set":Str)) (hg2:gs.contains k=true) (hm2:X.mg "set"=none) (ha:Q (PA X [a] (tA X.K W fl))) (hs:starEach [a] X.env=[(false,eval a X.env)])
  (hs1:starEach [.Call (.Name "set" p2) [a] [] pos2] X.env=[(false,eval (.Call (.Name "set" p2) [a] [] pos2) X.env)]):Q (PE X (.Call (.Name "sorted" p) [.Call (.Name "set" p2) [a] [] pos2] [] pos) (tE X.K W (yR fl))):=⟨T.cb_sortSet S j k hj hg hm hk hg2 hm2 ha.p hs hs1⟩
end
end TQ
namespace T
open PySem PySem.Spec L2
open PyProof.Rows hiding St
variable {fi:FI}
def Dg:KB->Option (KB×KB)
 | .tuple [a,b]=>some (a,b)
 | _=>none
theorem zR {d:KB} {p:KB×KB} (h:Dg d=some p):d=.tuple [p.1,p.2]:=by
 unfold Dg at h;split at h
 ·cases h;rfl
 ·cases h
def qQ (i j:Nat) (body:FS):List KB->Ev->eF
 | [],Γ=>.nx Γ
 | d::r,Γ=>match Dg d with
  | some q=>if i<Γ.length/\j<Γ.length then (match body ((Γ.set i (KD q.1)).set j (KD q.2)) with
   | .nx Γ'=>qQ i j body r Γ'
   | .ct Γ'=>qQ i j body r Γ'
   | .bk Γ'=>.nx Γ'
   | .rt p=>.rt p
   | .er c Γ'=>.er c Γ'
   | .no=>.no) else .no
  | none=>.no
def fI (i j:Nat) (fi:FI) (body:FS):FS:=fun Γ=>match fi Γ with
 | .ok t Γ1=>if t.st then qQ i j body t.ds Γ1 else .no
 | .er c Γ1=>.er c Γ1
 | .no=>.no
section
variable {K:Fg} {W:XW} {U:St} {H:Hp} {D:cJ}
theorem vT {i j:Nat} {body:FS} (h:tS K W (fI i j fi body) D U H):cT (tI K W fi) (wX K 2 (g5 (av i) (g5 (av j) w4))) (tS K W body) D U H:=by
 obtain ⟨He,O,Fs,Γ,E,h⟩:=h;refine ⟨He,O,Fs,Γ,E,?_⟩
 unfold fI at h
 cases e:fi Γ with
 | er c Γ1=>rw [e] at h;exact fun H' Fs' s E'=>h U H' Fs' E'
 | no=>rw [e] at h;exact h
 | ok t Γ1=>
  rw [e] at h;intro J H1 Fs1 vs P s1 E1 n1 it hP hP1 hst hr;have h:jT K W He O D (if t.st then qQ i j body t.ds Γ1 else .no):=h
  cases ht:t.st with
  | false=>rw [ht] at h;exact h.elim
  | true=>
   rw [ht] at h;have h:jT K W He O D (qQ i j body t.ds Γ1):=h
   obtain ⟨E1',sHe⟩:=E1.rebase;have hlen:vs.length=t.ds.length:=hr.1
   refine ⟨fun k m U' H'=>m=vs.length-k/\k<=vs.length/\∃Γk Fk,EnvOk K (aC H1 Fs1.flatten) O Fk H' U' Γk/\jT K W He O D (qQ i j body (t.ds.drop k) Γk),⟨vs.length,by simp,Nat.zero_le _,Γ1,Fs1,E1',by simpa using h⟩,?_⟩
   rintro k m U' H' ⟨rfl,hk,Γk,Fk,Ek,hw⟩
   have hPk:P H':=hst ht H' Ek.same
   by_cases hlt:k<vs.length
   case neg=>
    left
    have hke:k=vs.length:=by omega
    have:t.ds.drop k=[]:=drop_eq_nil_of_le (by omega)
    rw [this] at hw;exact ⟨by rw [hke];exact it.stop H' hPk,hw U' H' Fk (Ek.unbase sHe)⟩
   case pos=>
    right
    have hv:vs[k]?=some vs[k]:=Ks hlt
    have hkd:k<t.ds.length:=by omega
    have hd:t.ds[k]?=some t.ds[k]:=Ks hkd
    have hdr:t.ds.drop k=t.ds[k]::t.ds.drop (k+1):=drop_eq_getElem_cons hkd
    rw [hdr] at hw;generalize hdk:t.ds[k]=d at hd hw
    generalize hvk:vs[k]=v at hv
    obtain ⟨hgo,hyld⟩:=it.go k H' v hPk hv
    simp only [qQ] at hw
    cases ep:Dg d with
    | none=>rw [ep] at hw;exact hw.elim
    | some q=>
    rw [ep] at hw;obtain ⟨d1,d2⟩:=q;dsimp only at hw;have ed:=zR ep
    dsimp only at ed;subst ed;by_cases hi:i<Γk.length/\j<Γk.length
    case neg=>rw [if_neg hi] at hw;exact hw.elim
    rw [if_pos hi] at hw;have rep:Rep K (aC H' (O++Fk.flatten)) v (.tuple [d1,d2]):=by
     refine (hr.2 k v _ hv hd).mono fun b o hb=>?_
     have hb1:aC H1 Fs1.flatten b=some o:=sub_hid b o hb
     have hbO:b∉O:=fun z=>by
      unfold aC at hb;rw [if_pos (Kp _ z)] at hb
      cases hb
     have hbF:b∉Fk.flatten:=fun z=>by
      have:=Ek.fresh b z
      rw [hb1] at this
      cases this
     exact h9 (Ek.same b o hb1) fun z=>(Kq z).elim hbO hbF
    obtain ⟨T,v1,v2,rfl,hT,rv1,rv2⟩:=r6 rep;have Ep:=EnvOk.put (G:=[]) (i:=i) (p:=⟨.leaf,d1⟩) (v:=v1) Ek (.leaf rv1) rfl (fun a ha=>by simp at ha) hi.1
    have fk:∀a∈O++(Fk.set i []).flatten,a∈O++Fk.flatten:=fun a ha=>by
     rcases Kq ha with z | z
     ·exact Kp _ z
     ·obtain ⟨F,hF⟩:=Ek.lt hi.1
      have:=(mm (G:=[]) hF).mem_iff.mp (Ko _ z)
      exact Ko _ (by simpa using this)
    have Eq:=EnvOk.put (G:=[]) (i:=j) (p:=⟨.leaf,d2⟩) (v:=v2) Ep (.leaf (rv2.mono (dW (Same.refl _) fun a ha=>.inl (fk a ha)))) rfl (fun a ha=>by simp at ha) (by rw [length_set];exact hi.2)
    refine ⟨hgo,fun U2 H2=>∃Γk Fk,EnvOk K (aC H1 Fs1.flatten) O Fk H2 U2 Γk/\jT K W He O D (qQ i j body (t.ds.drop (k+1)) Γk),fun U2 H2 q=>⟨vs.length-(k+1),by omega,rfl,hlt,q⟩,fun x Hx hx=>?_⟩
    obtain ⟨rfl,rfl⟩:=hyld x Hx hx;refine ⟨T,[v1,v2],rfl,aV hid_le hT,rfl,v1,[v2],rfl,v2,[],rfl,rfl,?_⟩
    refine ⟨aC H1 Fs1.flatten,O,_,_,Eq,?_⟩
    cases eb:body ((Γk.set i (KD d1)).set j (KD d2)) with
    | nx Γ'=>rw [eb] at hw;exact fun U2 H2 F2 E2=>⟨Γ',F2,E2,hw⟩
    | ct Γ'=>rw [eb] at hw;exact fun U2 H2 F2 E2=>⟨Γ',F2,E2,hw⟩
    | bk Γ'=>rw [eb] at hw;exact fun U2 H2 F2 E2=>hw U2 H2 F2 (E2.unbase sHe)
    | rt p=>rw [eb] at hw;exact fun u H2 G r=>hw u H2 G (r.unbase sHe)
    | er c Γ'=>rw [eb] at hw;exact fun U2 H2 F2 E2=>hw U2 H2 F2 (E2.unbase sHe)
    | no=>rw [eb] at hw;exact hw
end
section
variable {X:Cx} {N gl:List Str} {vs cs ls lo gs:List Nat} {W:XW} {a:Expr} {pos p:Pos} {fa:F1}
theorem cs_forP (S:Cp X N gl vs cs ls lo gs) (i j:Nat) {x y:Str} {px py pt:Pos} {kt:Nat} {iter:Expr} {body:List Stmt} {g:FS} (hx:N[i]?=some x) (hl:ls.contains i=true) (hy:N[j]?=some y) (hl2:ls.contains j=true)
  (hp:PassesOwn (model X.prog X.w) X.A X.env X.xe) (hi':PI X (.Tuple [.Name x px,.Name y py] kt pt) iter (tI X.K W fi)) (hb:PSs X body (tS X.K W g)) (hs:∀x,foldedSetIterable iter X.env x=pure x) {fpos:Pos} :
  PS X (.For (.Tuple [.Name x px,.Name y py] kt pt) iter body [] fpos) (tS X.K W (fI i j fi g)):=by
 have hN:X.N.Nodup:=by rw [S.hN];exact S.nd
 exact d7 (nu hp S.calm hi' (Gr S.calm (BG (mi hN (by rw [S.hN];exact hx) (S.loc i x hx hl).1 (S.loc i x hx hl).2) (BG (mi hN (by rw [S.hN];exact hy) (S.loc j y hy hl2).1 (S.loc j y hy hl2).2) GM))) hb hs) fun _ _ _=>vT
end
end T
namespace TQ
open PySem PySem.Spec L2 T
open PyProof.Rows hiding St
section
variable {X:Cx} {N gl:List Str} {vs cs ls lo gs:List Nat} {W:XW} {a:Expr} {pos p:Pos} {fa:F1}
theorem pf (S:Cp X N gl vs cs ls lo gs) (i j:Nat) {x y:Str} {px py pt:Pos} {kt:Nat} {iter:Expr} {body:List Stmt} {fi:FI} {g:FS} (hx:N[i]?=some x) (hl:ls.contains i=true) (hy:N[j]?=some y) (hl2:ls.contains j=true)
  (hp:PassesOwn (model X.prog X.w) X.A X.env X.xe) (hi':Q (PI X (.Tuple [.Name x px,.Name y py] kt pt) iter (tI X.K W fi))) (hb:Q (PSs X body (tS X.K W g))) (hs:∀x,foldedSetIterable iter X.env x=pure x) {fpos:Pos} :
  Q (PS X (.For (.Tuple [.Name x px,.Name y py] kt pt) iter body [] fpos) (tS X.K W (fI i j fi g))):=⟨T.cs_forP S i j hx hl hy hl2 hp hi'.p hb.p hs⟩
end
end TQ
namespace KC
open PySem PySem.Spec L2 T PySem.SeqAt
open PyProof.Rows hiding St
variable {n:Nat} {l:List Nat} {Γ:Ev}
theorem xm (h:∀x∈l,x<n):(fD (l.map fun t:Nat=>(t:Int))).length<=n:=by
 have nd:=Ht (l.map fun t:Nat=>(t:Int))
 have m:∀x∈fD (l.map fun t:Nat=>(t:Int)),0<=x/\x.toNat<n:=fun x hx=>by
  obtain ⟨t,ht,rfl⟩:=List.mem_map.mp (ddp_mem.mp hx);exact ⟨by omega,by simpa using h t ht⟩
 have:=Gk (n:=n) (p:=(fD (l.map fun t:Nat=>(t:Int))).map Int.toNat) ?_ ?_
 ·rwa [length_map] at this
 ·rw [List.Nodup,pairwise_map]
  exact List.Pairwise.imp_of_mem (fun ha hb hab e=>hab (by have:=m _ ha;have:=m _ hb;omega)) nd
 ·intro x hx
  obtain ⟨t,ht,rfl⟩:=List.mem_map.mp hx;exact (m t ht).2
theorem rG (h:∀x∈l,x<n):PySem.W.sortI (fD (l.map fun t:Nat=>(t:Int)))=((List.range n).filter fun r=>l.contains r).map fun t:Nat=>(t:Int):=by
 refine (PySem.W.eq_sortI ?_ ?_).symm
 ·refine (List.perm_ext_iff_of_nodup ?_ (Ht _)).mpr fun x=>?_
  ·rw [List.Nodup,pairwise_map]
   exact (List.nodup_range.filter _).imp fun h e=>h (by omega)
  ·rw [ddp_mem,mem_map,mem_map]
   constructor
   ·rintro ⟨t,ht,rfl⟩
    exact ⟨t,by simpa using (List.mem_filter.mp ht).2,rfl⟩
   ·rintro ⟨t,ht,rfl⟩
    exact ⟨t,List.mem_filter.mpr ⟨List.mem_range.mpr (h t ht),by simpa using ht⟩,rfl⟩
 ·rw [pairwise_map]
  exact (List.pairwise_lt_range.filter _).imp fun h=>by omega
theorem vu {fl:FL} {s:Sh} (hl:fl Γ=.ok [⟨s,bG l⟩] Γ) (h:∀x∈l,x<n) (hn:n<64) (h4:l.length<4000):yR fl Γ=.ok ⟨.lst .leaf,bG ((List.range n).filter fun r=>l.contains r)⟩ Γ:=by
 unfold yR;rw [hl];have e:T.sortArg ([(⟨s,bG l⟩:PV)].map (·.d))=some (l.map fun t:Nat=>(t:Int)):=by
  show T.intsOf (l.map rm)=_
  rw [GO,mO]
 have c:(l.map fun t:Nat=>(t:Int)).length<4000/\(fD (l.map fun t:Nat=>(t:Int))).length<64:=⟨by rw [length_map];exact h4,Nat.lt_of_le_of_lt (xm h) hn⟩
 show (match T.sortArg ([(⟨s,bG l⟩:PV)].map (·.d)) with | some ns=>if ns.length<4000/\(fD ns).length<64 then Out.ok (⟨.lst .leaf,.list ((PySem.W.sortI (fD ns)).map .int)⟩:PV) Γ else .no | none=>.no)=_
 rw [e];dsimp only;rw [if_pos c,rG h,<-GO]
theorem g6 {α:Type} (en:α->D×D) {i j:Nat} {body:FS} {Inv:List α->Ev->Prop} (hb:∀a r Γ,Inv (a::r) Γ->(i<Γ.length/\j<Γ.length)/\∃Γ',body ((Γ.set i (KD ((en a).1))).set j (KD ((en a).2)))=.nx Γ'/\Inv r Γ'):∀(xs:List α) (Γ:Ev),Inv xs Γ->∃Γ',qQ i j body (xs.map fun a=>.tuple [(en a).1,(en a).2]) Γ=.nx Γ'/\Inv [] Γ'
 | [],Γ,h=>⟨Γ,rfl,h⟩
 | a::r,Γ,h=>by
  obtain ⟨hi,Γ1,h1,h2⟩:=hb a r Γ h;obtain ⟨Γ2,e,h3⟩:=g6 en hb r Γ1 h2;refine ⟨Γ2,?_,h3⟩
  rw [map_cons,qQ];simp only [Dg]
  rw [if_pos hi,h1];exact e
theorem yZ {Γ1:Ev} {i j:Nat} {fi:T.FI} {body:FS} {ds:List D} {o:eF} (h:fi Γ=.ok ⟨ds,true⟩ Γ1) (hg:qQ i j body ds Γ1=o):fI i j fi body Γ=o:=by unfold fI;rw [h];exact hg
end KC
namespace T
open PySem PySem.Spec L2
open PyProof.Rows hiding St
variable {b a c:Addr} {us:List Value} {h':Heap} {o:Obj} {es:Array DictEntry} {ep n:Nat} {K:Fg} {H':Hp} {X:Cx} {pins:List (Addr×Obj)} {U:St} {sh:List Bool}
abbrev It:=d8 ⊕ List d8
section
variable {prog:Program} {w:World}
inductive Its2 (h:Heap):List It->List Value->Prop
 | nil:Its2 h [] []
 | v {k:d8} {u:Value} {ks:List It} {us:List Value}:(jU prog w).is k u=true->Its2 h ks us->Its2 h (.inl k::ks) (u::us)
 | t {l:List d8} {b:Addr} {ks:List It} {us:List Value}:IsTupleKey (jU prog w) h l b->Its2 h ks us->Its2 h (.inr l::ks) (.ref b::us)
variable (prog w)
def Is2 (h:Heap) (ks:List It) (a:Addr):Prop:=∃o items n,h.get? a=some o/\o.cls=.type "tuple"/\o.data=.seq items n/\Its2 (prog:=prog) (w:=w) h ks items.toList
variable {prog w}
theorem oJ {k:d8}:(jU prog w).is k (.ref b)=true->False:=fun h=>by
 rcases u7 h with ⟨i,t,_,e⟩ | ⟨x,t,_,e⟩<;>cases e
theorem Its2.inj {h:Heap} {x y:List It} (hx:Its2 (prog:=prog) (w:=w) h x us) (hy:Its2 (prog:=prog) (w:=w) h y us):x=y:=by
 induction hx generalizing y with
 | nil=>cases hy;rfl
 | v h1 _ ih=>
  cases hy with
  | v h2 t2=>rw [(jU prog w).inj _ _ _ h1 h2,ih t2]
  | t h2 t2=>exact (oJ h1).elim
 | t h1 _ ih=>
  cases hy with
  | v h2 t2=>exact (oJ h2).elim
  | t h2 t2=>rw [h1.inj h2,ih t2]
theorem Is2.typeIs {s:Shared} {ks:List It} (x:Is2 prog w s.heap ks a):s.TypeIs (.ref a) "tuple":=let ⟨o,_,_,ho,hc,_⟩:=x;⟨o,ho,hc⟩
theorem Is2.inj {h:Heap} {x y:List It} (hx:Is2 prog w h x a) (hy:Is2 prog w h y a):x=y:=by
 obtain ⟨o,items,n,ho,_,hd,hi⟩:=hx;obtain ⟨o',items',n',ho',_,hd',hi'⟩:=hy;obtain rfl:o=o':=Option.some.inj (ho.symm.trans ho')
 rw [hd] at hd';injection hd' with h1 _
 subst h1;exact hi.inj hi'
theorem Its2.keeps {h:Heap} {ks:List It} {d:Addr} (x:Its2 (prog:=prog) (w:=w) h ks us) (ho:h.get? d=some o) (hd:o.data=.dict es ep) (hs:Heap.SameBut d h h'):Its2 (prog:=prog) (w:=w) h' ks us:=by
 induction x with
 | nil=>exact .nil
 | v h1 _ ih=>exact .v h1 ih
 | t h1 _ ih=>exact .t (h1.keeps ho hd hs) ih
theorem Is2.keeps {h:Heap} {ks:List It} {d:Addr} (x:Is2 prog w h ks a) (ho:h.get? d=some o) (hd:o.data=.dict es ep) (hs:Heap.SameBut d h h'):Is2 prog w h' ks a:=by
 obtain ⟨o',items,n,ho',hc,hd',hi⟩:=x;have hne:a≠d:=by
  rintro rfl
  obtain rfl:o'=o:=Option.some.inj (ho'.symm.trans ho)
  rw [hd] at hd';exact nomatch hd'
 exact ⟨o',items,n,(hs.2 a hne).trans ho',hc,hd',hi.keeps ho hd hs⟩
def hI (w:World):It->Int
 | .inl k=>AA w k
 | .inr l=>reduceHash (Builtin.Tuple.tupleHashOf (l.map (AA w)))
def dI:It->Nat
 | .inl _=>1
 | .inr l=>l.length+1
def IP (w:World) (ks:List It):Int:=reduceHash (Builtin.Tuple.tupleHashOf (ks.map (hI w)))
def IW (ks:List It):Nat:=(ks.map dI).sum+1
variable {A:Around} {E:Value->Shared->Prop} {s:Shared}
theorem DO {ks:List It} {Q:Int->Shared->Prop} (hu:A.units+1<cLine) (hk:Is2 prog w s.heap ks a) (h:Q (IP w ks) { s with toks:=s.toks+IW ks }):wpAny (model prog w) A (pyHash (.ref a)) Q E s:=by
 have hT:=hk.typeIs
 obtain ⟨o,items,n,ho,_,hd,hi⟩:=hk;unfold pyHash;first | unfold pyHashByItsType | skip
 first | refine Kx (wpAny_cRoomFor_or (.inr (by omega)) ?_) | skip
 refine Kx (wpAny_specialOf hT PySem.F.slot_tuple_hash.lookup ?_)
 show wpAny _ _ (if (some (Value.builtin "tuple.__hash__")==some Value.none)=true then _ else _) Q E s
 rw [if_neg (by rw [beq_builtin_none];exact Bool.false_ne_true)]
 refine Kx (wpAny_specialOf hT PySem.F.slot_tuple_hash.lookup ?_)
 show wpAny _ _ (callSpecialIfBoundUnlessNone? (.ref a) "__hash__" _ >>= _) Q E s
 refine Kx (wpAny_callSpecialIfBoundUnlessNone?_slot hT PySem.F.slot_tuple_hash (wpAny_call_entry PySem.F.slot_tuple_hash hT PySem.F.entry_tuple_hash ?_ (PySem.F.args_tuple_hash_1 _)))
 show wpAny _ _ (Builtin.Tuple.tupleItemsOf (.ref a) >>= _) _ _ s
 refine Kx (wpAny_tupleItemsOf ho hd ?_)
 refine Kx ?_
 rw [<-Array.forIn_toList];refine wpAny_forIn_list _
  (fun rest (b:Array Int) s'=>∃done left,ks=done++left/\Its2 (prog:=prog) (w:=w) s.heap left rest/\b.toList=done.map (hI w)/\s'={ s with toks:=s.toks+(done.map dI).sum })
  _ ?_ ?_ _ _ ⟨[],ks,rfl,hi,rfl,rfl⟩
 ·rintro x rest b s' ⟨done,left,rfl,hl,hb,rfl⟩
  cases hl with
  | @v k _ ks' _ h1 hl'=>
   refine Kx ((jU prog w).pyHash h1 ?_)
   first
    | exact Ky ⟨done++[.inl k],ks',by simp,hl',by simp [hb];rfl,by simp [Nat.add_assoc,dI]⟩
    | exact Kx (Ky (Ky ⟨done++[.inl k],ks',by simp,hl',by simp [hb];rfl,by simp [Nat.add_assoc,dI]⟩))
  | @t l q ks' _ h1 hl'=>
   refine Kx (wpAny_pyHash_tuple (knd:=jU prog w) (by simp;omega) h1 ?_)
   first
    | exact Ky ⟨done++[.inr l],ks',by simp,hl',by simp [hb];rfl,by simp [Nat.add_assoc,dI]⟩
    | exact Kx (Ky (Ky ⟨done++[.inr l],ks',by simp,hl',by simp [hb];rfl,by simp [Nat.add_assoc,dI]⟩))
 ·rintro b s' ⟨done,left,rfl,hl,hb,rfl⟩
  cases hl;rw [append_nil] at h;show wpAny _ _ (retInt (Builtin.Tuple.tupleHashOf b.toList)) _ _ _
  rw [hb];refine wpAny_ret_mkInt ?_
  show wpAny _ _ (if (decide (-(2:Int) ^ 63<=Builtin.Tuple.tupleHashOf (done.map (hI w)))&&decide (Builtin.Tuple.tupleHashOf (done.map (hI w))<2 ^ 63))=true then _ else _) Q E _
  unfold IP reduceHash IW at h;by_cases hr:(decide (-(2:Int) ^ 63<=Builtin.Tuple.tupleHashOf (done.map (hI w)))&&decide (Builtin.Tuple.tupleHashOf (done.map (hI w))<2 ^ 63))=true
  ·rw [if_pos hr]
   rw [if_pos hr] at h;exact Ky (by simpa [Nat.add_assoc] using h)
  ·rw [if_neg hr]
   rw [if_neg hr] at h;exact Kx (wpAny_rule (Ky (by simpa [Nat.add_assoc] using h)))
def isT:It->Bool
 | .inl _=>false
 | .inr _=>true
theorem ui {x y:List It} {P:Fin->Shared->Prop} (hu:A.units<cLine) (hsh:x.map isT=y.map isT) (hx:Is2 prog w s.heap x a) (hy:Is2 prog w s.heap y b) (h:P (.done (.ret (.bool (decide (x=y))))) s) :
  wpAny (model prog w) A (Builtin.«tuple.__eq__» ⟨[.ref a,.ref b],[]⟩) P E s:=by
 have hTb:=hy.typeIs
 obtain ⟨oa,xs,na,hoa,_,hda,hia⟩:=hx;obtain ⟨ob,ys,nb,hob,_,hdb,hib⟩:=hy;show wpAny _ _ (isInstance (.ref b) (.type "tuple") >>= _) _ _ s
 refine Kx (wpAny_isInstance hTb isSubtype_tuple_tuple ?_)
 simp only [Bool.not_true,Bool.false_eq_true,if_false]
 refine Kx (wpAny_tupleItemsOf hoa hda ?_)
 refine Kx (wpAny_tupleItemsOf hob hdb ?_)
 refine Kx ?_
 refine wpAny_forIn_list _
  (fun rest r s'=>r.1=none/\s'=s/\∃x' y' xs' ys',rest=List.zip xs' ys'/\x'.map isT=y'.map isT/\Its2 (prog:=prog) (w:=w) s.heap x' xs'/\Its2 (prog:=prog) (w:=w) s.heap y' ys'/\decide (x'=y')=decide (x=y)/\(xs'.length==ys'.length)=(xs.size==ys.size))
  _ ?_ ?_ _ _ ⟨rfl,rfl,x,y,xs.toList,ys.toList,rfl,hsh,hia,hib,rfl,by simp⟩
 ·rintro ⟨u,v⟩ rest r s' ⟨hr,rfl,x',y',xs',ys',hz,hsh',hx',hy',hdec,hlen⟩
  cases hx' with
  | nil=>simp at hz
  | @v k1 u' x'' xs'' h1 hx''=>
   cases hy' with
   | nil=>simp at hz
   | t h2 hy''=>simp [isT] at hsh'
   | @v k2 v' y'' ys'' h2 hy''=>
    simp only [List.zip_cons_cons,List.cons.injEq,Prod.mk.injEq] at hz
    obtain ⟨⟨rfl,rfl⟩,rfl⟩:=hz;refine Kx ((jU prog w).eqBool (a:=k1) (b:=k2) h1 h2 ?_)
    by_cases hk:k1=k2
    ·subst hk
     rw [decide_eq_true rfl];simp only [Bool.not_true,Bool.false_eq_true,if_false]
     refine Ky ⟨rfl,rfl,x'',y'',xs'',ys'',rfl,by simpa using hsh',hx'',hy'',?_,by simpa using hlen⟩
     rw [<-hdec];by_cases hxy:x''=y''
     ·simp [hxy]
     ·simp [hxy]
    ·rw [decide_eq_false hk]
     simp only [Bool.not_false,if_true]
     have hf:decide (x=y)=false:=by rw [<-hdec];simp [hk]
     rw [hf] at h;exact Kx (Ky (Ky (Ky h)))
  | @t l1 b1 x'' xs'' h1 hx''=>
   cases hy' with
   | nil=>simp at hz
   | v h2 hy''=>simp [isT] at hsh'
   | @t l2 b2 y'' ys'' h2 hy''=>
    simp only [List.zip_cons_cons,List.cons.injEq,Prod.mk.injEq] at hz
    obtain ⟨⟨rfl,rfl⟩,rfl⟩:=hz;refine Kx (wpAny_eqBool_tuple (knd:=jU prog w) hu h1 h2 ?_)
    by_cases hk:l1=l2
    ·subst hk
     rw [decide_eq_true rfl];simp only [Bool.not_true,Bool.false_eq_true,if_false]
     refine Ky ⟨rfl,rfl,x'',y'',xs'',ys'',rfl,by simpa using hsh',hx'',hy'',?_,by simpa using hlen⟩
     rw [<-hdec];by_cases hxy:x''=y''
     ·simp [hxy]
     ·simp [hxy]
    ·rw [decide_eq_false hk]
     simp only [Bool.not_false,if_true]
     have hf:decide (x=y)=false:=by rw [<-hdec];simp [hk]
     rw [hf] at h;exact Kx (Ky (Ky (Ky h)))
 ·rintro ⟨r1,r2⟩ s' ⟨hr,rfl,x',y',xs',ys',hz,hsh',hx',hy',hdec,hlen⟩
  simp only at hr
  subst hr;refine Ky ?_
  have hfin:(xs.size==ys.size)=decide (x=y):=by
   rw [<-hdec,<-hlen]
   cases hx' with
   | nil=>
    cases hy' with
    | nil=>simp
    | v _ _=>simp at hsh'
    | t _ _=>simp at hsh'
   | v _ _=>
    cases hy' with
    | nil=>simp at hsh'
    | v _ _=>simp at hz
    | t _ _=>simp at hz
   | t _ _=>
    cases hy' with
    | nil=>simp at hsh'
    | v _ _=>simp at hz
    | t _ _=>simp at hz
  show P (.done (.ret (.bool (xs.size==ys.size)))) s'
  rw [hfin];exact h
theorem IU {x y:List It} {Q:Bool->Shared->Prop} (hu:A.units+1<cLine) (hsh:x.map isT=y.map isT) (hx:Is2 prog w s.heap x a) (hy:Is2 prog w s.heap y b) (h:Q (decide (x=y)) s) :
  wpAny (model prog w) A (eqBool (.ref a) (.ref b)) Q E s:=by
 unfold eqBool;try with_reducible refine wpAny_holding ?_
 show wpAny _ _ (if (Value.ref a==Value.ref b)=true then _ else _) Q E s
 by_cases hab:(Value.ref a==Value.ref b)=true
 ·rw [if_pos hab]
  have e:a=b:=by have:=eq_of_beq hab;injection this
  subst e;obtain rfl:=hx.inj hy
  exact Kx (wpAny_rule (Ky (by simpa using h)))
 ·rw [if_neg hab]
  exact Kx (wpAny_richCompare_same_room (op:=.Eq) hx.typeIs hy.typeIs PySem.F.slot_tuple_eq
   (wpAny_call_entry PySem.F.slot_tuple_eq hx.typeIs PySem.F.entry_tuple_eq (ui (by simp;omega) hsh hx hy ⟨_,rfl,(fun e=>nomatch e),wpAny_truthy_bool h⟩) (PySem.F.args_tuple_eq_2 _ _)) (by omega))
theorem zN {ks:List d8} {Q:Bool->Shared->Prop} (hk:IsTupleKey (jU prog w) s.heap ks a) (h:Q true s):wpAny (model prog w) A (eqIsQuiet (n+1) (.ref a)) Q E s:=by
 have hT:=hk.typeIs
 obtain ⟨o,items,m,ho,_,hd,hi⟩:=hk;unfold eqIsQuiet;refine Kx (wpAny_specialOf hT PySem.F.slot_tuple_eq.lookup ?_)
 show wpAny _ _ (isInstance (.ref a) (.type "tuple") >>= _) _ _ s
 refine Kx (wpAny_isInstance hT isSubtype_tuple_tuple ?_)
 simp only [Bool.not_true,Bool.false_eq_true,if_false]
 refine Kx (wpAny_seqItems ho hd ?_)
 refine Kx ?_
 show wpAny _ _ (forIn items _ _) _ _ s
 rw [<-Array.forIn_toList];refine wpAny_forIn_list _ (fun rest r s'=>r.1=none/\s'=s/\∀v∈rest,carriedByValue v=true) _ ?_ ?_ _ _ ⟨rfl,rfl,hi.byValue⟩
 ·rintro v rest r s' ⟨hr,rfl,hall⟩
  rw [eqIsQuiet_byValue _ (hall v mem_cons_self)];refine Kx (Ky ?_)
  simp only [Bool.not_true,Bool.false_eq_true,if_false]
  exact Ky ⟨rfl,rfl,fun u hu'=>hall u (Ku _ hu')⟩
 ·rintro ⟨r1,r2⟩ s' ⟨hr,rfl,_⟩
  simp only at hr
  subst hr;exact Ky h
theorem zM {ks:List It} {Q:Bool->Shared->Prop} (hk:Is2 prog w s.heap ks a) (h:Q true s):wpAny (model prog w) A (eqIsQuiet (n+2) (.ref a)) Q E s:=by
 have hT:=hk.typeIs
 obtain ⟨o,items,m,ho,_,hd,hi⟩:=hk;unfold eqIsQuiet;refine Kx (wpAny_specialOf hT PySem.F.slot_tuple_eq.lookup ?_)
 show wpAny _ _ (isInstance (.ref a) (.type "tuple") >>= _) _ _ s
 refine Kx (wpAny_isInstance hT isSubtype_tuple_tuple ?_)
 simp only [Bool.not_true,Bool.false_eq_true,if_false]
 refine Kx (wpAny_seqItems ho hd ?_)
 refine Kx ?_
 show wpAny _ _ (forIn items _ _) _ _ s
 rw [<-Array.forIn_toList];refine wpAny_forIn_list _ (fun rest r s'=>r.1=none/\s'=s/\∃ks,Its2 (prog:=prog) (w:=w) s.heap ks rest) _ ?_ ?_ _ _ ⟨rfl,rfl,ks,hi⟩
 ·rintro v rest r s' ⟨hr,rfl,ks,hall⟩
  cases hall with
  | @v k _ ks' _ h1 hl'=>
   rw [eqIsQuiet_byValue _ ((jU prog w).byValue _ _ h1)];refine Kx (Ky ?_)
   simp only [Bool.not_true,Bool.false_eq_true,if_false]
   exact Ky ⟨rfl,rfl,ks',hl'⟩
  | @t l q ks' _ h1 hl'=>
   refine Kx (zN h1 ?_)
   simp only [Bool.not_true,Bool.false_eq_true,if_false]
   exact Ky ⟨rfl,rfl,ks',hl'⟩
 ·rintro ⟨r1,r2⟩ s' ⟨hr,rfl,_⟩
  simp only at hr
  subst hr;exact Ky h
end
def cS (prog:Program) (w:World) (sh:List Bool):HeapKind prog w (List It) where
 is:=fun h ks a=>Is2 prog w h ks a/\ks.map isT=sh
 hash:=IP w
 draws:=IW
 room:=fun A=>A.units+1<cLine
 inj:=fun hx hy=>hx.1.inj hy.1
 keeps:=fun x ho hd hs=>⟨x.1.keeps ho hd hs,x.2⟩
 pyHash:=fun hu hk h=>DO hu hk.1 h
 eqBool:=fun hu hx hy h=>IU hu (hx.2.trans hy.2.symm) hx.1 hy.1 h
 quiet:=fun hk h=>zM hk.1 h
def F5 (K:Fg) (H:Hp):It->V->Prop
 | .inl k,v=>v=kV k
 | .inr l,v=>∃c,v=.ref c/\SqT K H c (l.map kV)
def K2 (K:Fg) (H:Hp) (ks:List It) (b:Addr):Prop:=∃vs,SqT K H b vs/\Paired (F5 K H) ks vs
theorem K2.mono {H:Hp} {ks:List It} (k:K2 K H ks b) (m:∀c xs,SqT K H c xs->SqT K H' c xs):K2 K H' ks b:=by
 obtain ⟨vs,h,p⟩:=k;refine ⟨vs,m _ _ h,?_⟩
 clear h;induction p with
 | nil=>exact .nil
 | @cons a v l l' q _ ih=>
  refine .cons ?_ ih
  cases a with
  | inl k=>exact q
  | inr l=>obtain ⟨c,e,h⟩:=q;exact ⟨c,e,m _ _ h⟩
theorem vy {H:Hp} {s:Shared} {l:List d8} (I:L2.Inv X pins U H s) (h:SqT X.K H c (l.map kV)):IsTupleKey (jU X.prog X.w) s.heap l c:=by
 obtain ⟨its,r,⟨o,h1,h2,n,h3⟩,_⟩:=I.tuple h;exact ⟨o,its.toArray,n,h1,h2,h3,by simpa using i4 r⟩
theorem uX {H:Hp} {s:Shared} {ks:List It} (I:L2.Inv X pins U H s) (k:K2 X.K H ks b):Is2 X.prog X.w s.heap ks b:=by
 obtain ⟨vs,h,p⟩:=k;obtain ⟨its,r,⟨o,h1,h2,n,h3⟩,_⟩:=I.tuple h;refine ⟨o,its.toArray,n,h1,h2,h3,?_⟩
 show Its2 s.heap ks its.toArray.toList
 rw [List.toList_toArray];have key:∀{ks:List It} {vs:List V} {us:List Value},Paired (F5 X.K H) ks vs->Vals vs us->Its2 (prog:=X.prog) (w:=X.w) s.heap ks us:=by
  intro ks vs us p;induction p generalizing us with
  | nil=>intro r;cases r;exact .nil
  | @cons a v l l' q _ ih=>
   intro r
   cases r with
   | cons rv r=>
    cases a with
    | inl k=>
     cases (show v=kV k from q)
     exact .v (yq rv) (ih r)
    | inr m=>
     obtain ⟨c,e,hc⟩:=q;subst e;rename_i u _
     cases (show u=Value.ref c from rv)
     exact .t (vy I hc) (ih r)
 exact key p r
def jW (P:Program) (w:World) (sh:List Bool) (a:Addr) (xs:List (List It×Addr×Value)):HO:=.ext fun h=>∃o es ep,h.get? a=some o/\o.ExactDict/\o.data=.dict es ep/\es.toList=xs.map (entryOfKey (cS P w sh))
abbrev KX (K:Fg) (H:Hp) (sh:List Bool):List (List It×V)->List (List It×Addr×Value)->Prop:=Paired fun p q=>p.1=q.1/\p.1.map isT=sh/\K2 K H p.1 q.2.1/\RelV p.2 q.2.2
def D2 (P:Program) (w:World) (K:Fg) (H:Hp) (sh:List Bool) (a:Addr) (kvs:List (List It×V)):Prop:=
 ∃xs,H a=some (jW P w sh a xs)/\KX K H sh kvs xs/\(xs.map (·.1)).Nodup/\xs.length<=1000/\(a==sysModules)=false
theorem KX.mono {H:Hp} {kvs:List (List It×V)} {xs:List (List It×Addr×Value)} (k:KX K H sh kvs xs) (m:∀c xs,SqT K H c xs->SqT K H' c xs):KX K H' sh kvs xs:=by
 induction k with
 | nil=>exact .nil
 | cons q _ ih=>exact .cons ⟨q.1,q.2.1,q.2.2.1.mono m,q.2.2.2⟩ ih
theorem KX.val {H:Hp} {kvs:List (List It×V)} {xs:List (List It×Addr×Value)} (r:KX K H sh kvs xs) (k:List It):RelO (cg kvs k) ((atKey xs k).map (·.2)):=by
 induction r with
 | nil=>exact trivial
 | @cons p q l l' h _ ih=>
  by_cases e:p.1=k
  ·rw [Ca e]
   have:atKey (q::l') k=some q.2:=by simp [atKey,find?_cons,<-h.1,e]
   rw [this];exact h.2.2.2
  ·rw [xX e]
   have:atKey (q::l') k=atKey l' k:=by
    have e':¬q.1=k:=fun z=>e (h.1.trans z)
    simp [atKey,find?_cons,e']
   rw [this];exact ih
theorem KX.len {H:Hp} {kvs:List (List It×V)} {xs:List (List It×Addr×Value)} (r:KX K H sh kvs xs):kvs.length=xs.length:=Paired.length r
theorem xT {H:Hp} {s:Shared} {kvs:List (List It×V)} {xs:List (List It×Addr×Value)} (I:L2.Inv X pins U H s) (e:H a=some (jW X.prog X.w sh a xs)) (r:KX X.K H sh kvs xs) (nd:(xs.map (·.1)).Nodup):s.heap.DictOfH (cS X.prog X.w sh) a xs:=by
 obtain ⟨⟨o,es,ep,h1,h2,h3,h4⟩,_⟩:=(show ObjOk X.prog X.w H s.heap a (jW X.prog X.w sh a xs) from I.hok a _ e);refine ⟨o,es,ep,h1,h2,h3,h4,fun x hx=>?_,nd⟩
 have all:∀{l:List (List It×V)} {m:List (List It×Addr×Value)},KX X.K H sh l m->∀x∈m,(cS X.prog X.w sh).is s.heap x.1 x.2.1:=by
  intro l m q;induction q with
  | nil=>intro x hx;exact nomatch hx
  | @cons p q ps qs hq t ih=>
   intro x hx;rcases Kr hx with e | hx
   ·subst e
    exact ⟨by rw [<-hq.1];exact uX I hq.2.2.1,by rw [<-hq.1];exact hq.2.1⟩
   ·exact ih x hx
 exact all r x hx
theorem gK {P:Program} {w:World} {A:Around} (hu:A.units+2<cLine):(cS P w sh).room A.in1:=by
 show A.in1.units+1<cLine
 simp
 omega
section
variable {prog:Program} {w:World} {K:Type} [DecidableEq K] {knd:HeapKind prog w K} {A:Around} {E:Value->Shared->Prop} {s:Shared}
theorem tM {d:Addr} {xs:List (K×Addr×Value)} {Q:Value->Shared->Prop} (hd:(d==sysModules)=false) (hm:s.heap.DictOfH knd d xs) (hfit:(xs.length:Int)<2 ^ 63)
  (h:Q (.int xs.length (s.toks+1)) { s with toks:=s.toks+1+1 }):wpAny (model prog w) A (call (.builtin "len") [.ref d]) Q E s:=by
 refine Calls.call_function_entry kind_len plain_len entry_len (args_len1 _) ?_
 have hm':=hm
 obtain ⟨o,es,ep,ho,hc,hdat,hk,hp,hn⟩:=hm'
 have hz:es.size=xs.length:=size_of_entries hk
 unfold Builtin.«len»
 refine Kx (m:=oneArg "len" _) (Ky ?_)
 refine Kx (m:=callSpecial? (.ref d) (Str.ofString "__len__")) (wpAny_callSpecial?_slot (name:=Str.ofString "__len__") hm.typeIs PySem.F.slot_dict_len
  (wpAny_call_entry PySem.F.slot_dict_len hm.typeIs PySem.F.entry_dict_len ?_ (PySem.F.args_dict_len_1 _)))
 show wpAny _ _ (dictSize d >>= _) _ _ s
 unfold dictSize;refine Kx (Kx (wpAny_dictEntries ho hdat (Ky ?_)))
 show wpAny _ _ (Builtin.Dict.pendingCount d >>= _) _ _ s
 refine Kx (wpAny_pendingCount_other hd ?_)
 refine wpAny_ret_mkInt ?_
 rw [show ((es.size:Int)+((0:Nat):Int))=(xs.length:Int) by rw [hz];simp]
 show wpAny _ _ _ _ _ { s with toks:=s.toks+1 }
 refine Kx (wpAny_holding (Ky ?_))
 refine Kx (wpAny_letGo ?_)
 show wpAny _ _ (if ((xs.length:Nat):Int)<0 then _ else _) _ _ _
 rw [if_neg (by omega)]
 show wpAny _ _ (if ((xs.length:Nat):Int)≥2 ^ 63 then _ else _) _ _ _
 rw [if_neg (by omega)]
 exact Kx (wpAny_mkInt (Ky ⟨_,rfl,h⟩))
end
def BA (P:Program) (w:World) (K:Fg) (td ty:TE):TE:=fun U H Q=>td U H fun x H1=>ty U H1 fun y H2=>∃a b sh kvs ks v,x=.ref a/\y=.ref b/\D2 P w K H2 sh a kvs/\K2 K H2 ks b/\ks.map isT=sh/\cg kvs ks=some v/\Q v H2
def B9 (P:Program) (w:World) (K:Fg) (ty td:TE):TE:=fun U H Q=>ty U H fun y H1=>td U H1 fun x H2=>∃a b sh kvs ks,x=.ref a/\y=.ref b/\D2 P w K H2 sh a kvs/\K2 K H2 ks b/\ks.map isT=sh/\Q (.bl (!(cg kvs ks).isSome)) H2
def GV (P:Program) (w:World) (K:Fg) (td ty tv:TE):TS:=fun D U H=>tv U H fun v H1=>td U H1 fun x H2=>ty U H2 fun y H3=>∃a b sh kvs ks,x=.ref a/\y=.ref b/\D2 P w K H3 sh a kvs/\K2 K H3 ks b/\ks.map isT=sh/\kvs.length<1000/\cg kvs ks=none /\
 ∀ob,D2 P w K (upd H3 a ob) sh a (kvs++[(ks,v)])->D.nx U (upd H3 a ob)
def B2 (P:Program) (w:World) (K:Fg) (sh:List Bool):TE:=fun _ H Q=>∀p ob,H p=none->D2 P w K (upd H p ob) sh p []->Q (.ref p) (upd H p ob)
def sC (P:Program) (w:World) (K:Fg):List V->Hp->VK->Prop:=fun xs H Q=>∃a sh kvs,xs=[.ref a]/\D2 P w K H sh a kvs/\Q (.int (kvs.length:Int)) H
theorem Bw {P:Program} {w:World} {H:Hp} {h:Heap} {xs:List (List It×Addr×Value)} (x:∃o es ep,h.get? a=some o/\o.ExactDict/\o.data=.dict es ep/\es.toList=xs.map (entryOfKey (cS P w sh))):ObjOk P w H h a (jW P w sh a xs):=by
 refine ⟨x,let ⟨o,_,_,ho,_⟩:=x;⟨o,ho⟩,fun h1 h2 ⟨o,es,ep,ho,r⟩ k=>⟨o,es,ep,k o ho,r⟩⟩
section
variable {X:Cx} {o i e value:Expr} {pos pos' tpos:Pos} {td ty tv:TE}
theorem kI (hu:X.A.units+2<cLine) (ho:PE X o td) (hi:PE X i ty) (hs:Bj i):PE X (.Subscript o i pos) (BA X.prog X.w X.K td ty):=by
 intro pins s U H Q I h;refine nL PySem.F.slot_dict_getitem.lookup hs (bg (ho pins s U H _ I h) fun u s1 ⟨x,H1,I1,rx,q1⟩=>bg (hi pins s1 U H1 _ I1 q1) fun iv s2 ⟨y,H2,I2,ry,a,b,sh,kvs,ks,v,ex,ey,⟨xs,e,r,nd,hz,hd⟩,k,hsh,hv,q2⟩=>?_)
 subst ex ey;obtain rfl:u=Value.ref a:=rx
 obtain rfl:iv=Value.ref b:=ry
 have dd:=xT I2 e r nd
 refine ⟨dd.typeIs,?_⟩
 obtain ⟨w',hw,rw'⟩:=RelO.some_of (v:=v) (o:=(atKey xs ks).map (·.2)) (by rw [<-hv];exact r.val ks)
 obtain ⟨p,hp,hp2⟩:=Option.map_eq_some_iff.mp hw;refine wpAny_getItem_heap (gK hu) ⟨uX I2 k,hsh⟩ dd hp ?_
 rw [hp2];exact ⟨v,H2,I2.tok _,rw',q2⟩
theorem Fv (hu:X.A.units+2<cLine) (hi:PE X i ty) (ho:PE X o td):PC X .NotIn i o (B9 X.prog X.w X.K ty td):=by
 intro pins s U H Q I h;refine bg (hi pins s U H _ I h) fun iv s1 ⟨y,H1,I1,ry,q1⟩=>bg (ho pins s1 U H1 _ I1 q1) fun u s2 ⟨x,H2,I2,rx,a,b,sh,kvs,ks,ex,ey,⟨xs,e,r,nd,hz,hd⟩,k,hsh,q2⟩=>?_
 subst ex ey;obtain rfl:u=Value.ref a:=rx
 obtain rfl:iv=Value.ref b:=ry
 have dd:=xT I2 e r nd
 refine wpAny_notIn_heap (gK hu) ⟨uX I2 k,hsh⟩ hd dd ?_
 have q:=(r.val ks).isSome_eq
 rw [Option.isSome_map] at q;rw [<-q];exact ⟨.bl (!(cg kvs ks).isSome),H2,I2.tok _,rfl,q2⟩
theorem kC (hu:X.A.units+2<cLine) (ho:PE X o td) (hi:PE X i ty) (hv:PE X value tv) (hs:swapsWith value (some (.Subscript o i pos')) pos.line X.env=pure false) :
  PS X (.Assign [.Subscript o i pos'] value pos) (GV X.prog X.w X.K td ty tv):=by
 intro pins s U H D I h;refine wpAny_Assign_Subscript (bg (hv pins s U H _ I h) fun r s1 ⟨v,H1,I1,rv,q1⟩=>bg (ho pins s1 U H1 _ I1 q1) fun u s2 ⟨x,H2,I2,rx,q2⟩=>bg (hi pins s2 U H2 _ I2 q2) fun iv s3 ⟨y,H3,I3,ry,a,b,sh,kvs,ks,ex,ey,⟨xs,e,rr,nd,hz,hd⟩,k,hsh,hl,hn,q3⟩=>?_) hs
 subst ex ey;obtain rfl:u=Value.ref a:=rx
 obtain rfl:iv=Value.ref b:=ry
 have dd:=xT I3 e rr nd
 have hb:(1000:Nat)<=sizeLine:=by decide
 have hat:atKey xs ks=none:=by
  have q:=(rr.val ks).isSome_eq
  rw [hn,Option.isSome_map] at q
  cases z:atKey xs ks with
  | none=>rfl
  | some _=>rw [z] at q;cases q
 refine wpAny_setItem_heap (hsz:=by omega) (gK hu) ⟨uX I3 k,hsh⟩ dd fun h' dd' hs'=>?_
 rw [storedH_new hat] at dd';obtain ⟨q,es,ep,hq,h2,h3,h4,_,h5⟩:=dd'
 have m:∀c ys,SqT X.K H3 c ys->SqT X.K (upd H3 a (jW X.prog X.w sh a (xs++[(ks,b,r)]))) c ys:=fun c ys hc=>by
  rcases hc with hc | hc
  ·left
   rcases hc with hc | ⟨o',hc⟩
   ·exact .inl (by rw [bw (fun z=>by subst z;rw [e] at hc;cases hc)];exact hc)
   ·exact .inr ⟨o',by rw [bw (fun z=>by subst z;rw [e] at hc;cases hc)];exact hc⟩
  ·exact .inr hc
 have I4:=EK (t':=s3.toks+(cS X.prog X.w sh).draws ks) (ob:=jW X.prog X.w sh a (xs++[(ks,b,r)])) I3 (by rw [e];exact True.intro) hs' ⟨q,hq⟩ (Bw ⟨q,es,ep,hq,h2,h3,h4⟩)
 refine ⟨U,_,I4,q3 _ ⟨xs++[(ks,b,r)],bL,?_,h5,?_,hd⟩⟩
 ·exact Paired.snoc (rr.mono m) ⟨rfl,hsh,k.mono m,rv⟩
 ·rw [length_append,length_singleton,<-rr.len]
  omega
theorem EZ (sh:List Bool):PE X (.Dict [] [] pos) (B2 X.prog X.w X.K sh):=fun pins s U H Q I h=>by
 have hp:=I.hok.fresh (KA s.heap.objs.size)
 refine wpAny_Dict_empty ⟨.ref s.heap.objs.size,_,I.laid (a:=s.heap.objs.size) (o:=jW X.prog X.w sh s.heap.objs.size []) (t':=s.toks) (fun _ _ q=>Kz _ q) (KA _) (Bw ⟨_,#[],0,Heap.get?_push_size _ rfl,⟨rfl,rfl,rfl⟩,rfl,rfl⟩),rfl,h _ _ hp ⟨[],bL,.nil,nodup_nil,by simp,beq_eq_false_iff_ne.mpr (Ne.symm (Nat.ne_of_lt I.big))⟩⟩
theorem m4:CallR X (.builtin "len") (sC X.prog X.w X.K):=by
 intro pins s U H xs us Q I rv h;obtain ⟨a,sh,kvs,rfl,⟨xs,e,r,nd,hz,hd⟩,q⟩:=h;obtain ⟨u,rfl,ru⟩:=rv.one
 cases ru;have dd:=xT I e r nd
 refine tM hd dd (by omega) ?_
 rw [<-r.len];exact ⟨.int (kvs.length:Int),H,I.tok _,⟨_,rfl⟩,q⟩
end
def dG:KB->Option d8
 | .int n=>some (.inl n)
 | .str x=>some (.inr x)
 | _=>none
def xM:List KB->Option (List d8)
 | []=>some []
 | d::r=>match dG d,xM r with
  | some k,some ks=>some (k::ks)
  | _,_=>none
def gF:KB->Option It
 | .tuple ds=>(xM ds).map .inr
 | d=>(dG d).map .inl
def gE:List KB->Option (List It)
 | []=>some []
 | d::r=>match gF d,gE r with
  | some k,some ks=>some (k::ks)
  | _,_=>none
def vx:KB->Option (List It)
 | .tuple ds=>gE ds
 | _=>none
def kc:List KB->Option (List (List It))
 | []=>some []
 | d::r=>match vx d,kc r with
  | some k,some ks=>some (k::ks)
  | _,_=>none
def Am (k:List It) (acc:List (List It)):Bool:=acc.any fun a=>decide (a=k)
theorem memB_iff {k:List It} {acc:List (List It)}:Am k acc=true↔k∈acc:=by
 unfold Am;rw [any_eq_true];exact ⟨fun ⟨x,h,e⟩=>by rw [<-of_decide_eq_true e];exact h,fun h=>⟨k,h,decide_eq_true rfl⟩⟩
def d0 (acc:List (List It)) (k:List It):List (List It):=if Am k acc then acc else acc++[k]
def dn (ks:List (List It)):List (List It):=ks.foldl d0 []
def gj (k:List It):List (List It)->Nat
 | []=>0
 | a::r=>if a=k then 0 else gj k r+1
def dE (ks:List (List It)):List Int:=ks.map fun k=>(gj k (dn ks):Int)
def zj (ks:List (List It)):Bool:=ks.all fun k=>decide (k.map isT=(ks.headD []).map isT)
def qT:List KB->b9
 | [.list ds]=>match kc ds with
  | some ks=>if ks.length<=900/\zj ks=true then .ok ⟨.lst .leaf,.list ((dE ks).map .int)⟩ else .no
  | none=>.no
 | _=>.no
theorem B6 {ks:List (List It)} {i:Nat} (h:i<ks.length):dn (ks.take (i+1))=d0 (dn (ks.take i)) ks[i]:=by
 unfold dn;rw [take_succ,Ks h,List.foldl_append];rfl
theorem Gz {ks:List (List It)}:∀i,i<=ks.length->(dn (ks.take i)).length<=i
 | 0,_=>by simp [dn]
 | i+1,h=>by
  have:=Gz (ks:=ks) i (by omega)
  rw [B6 (by omega)]
  unfold d0;split
  ·omega
  ·rw [length_append,length_singleton];omega
theorem pX {acc:List (List It)} {k x:List It}:x∈d0 acc k↔x∈acc\/x=k:=by
 unfold d0;split
 ·rename_i h
  exact ⟨.inl,fun z=>z.elim id fun e=>by rw [e];exact memB_iff.mp h⟩
 ·simp
theorem la:∀{ks acc:List (List It)} {x:List It},x∈ks.foldl d0 acc↔x∈acc\/x∈ks
 | [],acc,x=>by simp
 | k::ks,acc,x=>by
  rw [List.foldl_cons,la,pX,mem_cons,or_assoc]
theorem mem_dst {ks:List (List It)} {x:List It}:x∈dn ks↔x∈ks:=by
 unfold dn;rw [la];simp
def lj:Nat->List (List It)->List (List It×V)
 | _,[]=>[]
 | i,k::r=>(k,.int (i:Int))::lj (i+1) r
theorem GG:∀{l:List (List It)} {i:Nat},(lj i l).length=l.length
 | [],_=>rfl
 | _::l,i=>by rw [lj,length_cons,GG,length_cons]
theorem lh:∀{l:List (List It)} {i:Nat} {k:List It},lj i (l++[k])=lj i l++[(k,.int ((i+l.length:Nat):Int))]
 | [],i,k=>by simp [lj]
 | a::l,i,k=>by
  rw [cons_append,lj,lh,lj,cons_append,length_cons,show i+1+l.length=i+(l.length+1) by omega]
theorem Gi:∀{l:List (List It)} {i:Nat} {k:List It},k∈l->cg (lj i l) k=some (.int ((i+gj k l:Nat):Int))
 | a::l,i,k,h=>by
  by_cases e:a=k
  ·subst e
   rw [lj,Ca rfl,gj,if_pos rfl];rfl
  ·rw [lj,xX e,gj,if_neg e,Gi ((Kr h).resolve_left (Ne.symm e)),show i+1+gj k l=i+(gj k l+1) by omega]
theorem GH:∀{l:List (List It)} {i:Nat} {k:List It},k∉l->cg (lj i l) k=none
 | [],_,_,_=>rfl
 | a::l,i,k,h=>by
  have e:¬a=k:=fun e=>h (by rw [e];exact mem_cons_self)
  rw [lj,xX e,GH fun z=>h (Ku _ z)]
section
variable {K:Fg} {H:Hp}
theorem vL {v:V} {d:KB} {k:d8} (r:Rep K H v d) (e:dG d=some k):v=kV k:=by
 cases r<;>simp only [dG] at e<;>cases e<;>rfl
theorem iO:∀{vs:List V} {ds:List KB} {ks:List d8},vs.length=ds.length->(∀(i:Nat) v d,vs[i]?=some v->ds[i]?=some d->Rep K H v d)->xM ds=some ks->vs=ks.map kV
 | [],[],ks,_,_,e=>by cases e;rfl
 | v::vs,d::ds,ks,hl,hr,e=>by
  unfold xM at e;split at e
  ·rename_i k ks' e1 e2
   cases e;have h1:=vL (hr 0 v d rfl rfl) e1
   have h2:vs=ks'.map kV:=iO (by simpa using hl) (fun i v d a b=>hr (i+1) v d (by simpa using a) (by simpa using b)) e2
   rw [h1,h2];rfl
  ·cases e
 | [],_::_,_,hl,_,_=>by simp at hl
 | _::_,[],_,hl,_,_=>by simp at hl
theorem zp {v:V} {d:KB} {k:It} (r:Rep K H v d) (e:gF d=some k):F5 K H k v:=by
 cases r with
 | tup h hl hr=>
  simp only [gF] at e
  obtain ⟨l,hl',rfl⟩:=Option.map_eq_some_iff.mp e;exact ⟨_,rfl,by rw [<-iO hl hr hl'];exact h⟩
 | int i=>simp only [gF,dG] at e;cases e;rfl
 | str x=>simp only [gF,dG] at e;cases e;rfl
 | lst _ _ _=>simp only [gF,dG] at e;cases e
 | non=>simp only [gF,dG] at e;cases e
 | bl b=>simp only [gF,dG] at e;cases e
theorem ku:∀{vs:List V} {ds:List KB} {ks:List It},vs.length=ds.length->(∀(i:Nat) v d,vs[i]?=some v->ds[i]?=some d->Rep K H v d)->gE ds=some ks->Paired (F5 K H) ks vs
 | [],[],ks,_,_,e=>by cases e;exact .nil
 | v::vs,d::ds,ks,hl,hr,e=>by
  unfold gE at e;split at e
  ·rename_i k ks' e1 e2
   cases e;exact .cons (zp (hr 0 v d rfl rfl) e1) (ku (by simpa using hl) (fun i v d a b=>hr (i+1) v d (by simpa using a) (by simpa using b)) e2)
  ·cases e
 | [],_::_,_,hl,_,_=>by simp at hl
 | _::_,[],_,hl,_,_=>by simp at hl
theorem zq {v:V} {d:KB} {k:List It} (r:Rep K H v d) (e:vx d=some k):∃b,v=.ref b/\K2 K H k b:=by
 cases r with
 | @tup p vs ds h hl hr=>exact ⟨p,rfl,vs,h,ku hl hr e⟩
 | _=>cases e
theorem nF:∀{ds:List KB} {ks:List (List It)},kc ds=some ks->ks.length=ds.length/\∀(i:Nat) d,ds[i]?=some d->∃k,ks[i]?=some k/\vx d=some k
 | [],ks,e=>by cases e;exact ⟨rfl,fun i d h=>by simp at h⟩
 | d::ds,ks,e=>by
  unfold kc at e;split at e
  ·rename_i k ks' e1 e2
   cases e;obtain ⟨a,b⟩:=nF e2;refine ⟨by simp [a],fun i d' h=>?_⟩
   cases i with
   | zero=>cases h;exact ⟨k,rfl,e1⟩
   | succ i=>exact b i d' (by simpa using h)
  ·cases e
theorem vB {o o':HO} {xs:List V} (e:H a=some o) (h1:∀xs,o≠.tup xs) (h2:∀b xs,o≠.frz b (.tup xs)) (h:SqT K H c xs):SqT K (upd H a o') c xs:=by
 rcases h with h | h
 ·left
  rcases h with h | ⟨b,h⟩
  ·exact .inl (by rw [bw (fun z=>by subst z;rw [e] at h;exact h1 xs (Option.some.inj h))];exact h)
  ·exact .inr ⟨b,by rw [bw (fun z=>by subst z;rw [e] at h;exact h2 b xs (Option.some.inj h))];exact h⟩
 ·exact .inr h
theorem D2.mono {P:Program} {w:World} {kvs:List (List It×V)} (x:D2 P w K H sh a kvs) (e:H' a=H a) (m:∀c xs,SqT K H c xs->SqT K H' c xs):D2 P w K H' sh a kvs:=by
 obtain ⟨xs,h1,h2,h3⟩:=x;exact ⟨xs,e.trans h1,h2.mono m,h3⟩
end
abbrev cA:List Str:=["keys", "numbers", "key"]
abbrev fT:List Str:=["len"]
def Jp (P:Program) (w:World) (K:Fg):TS:=eN (tB (B9 P w K (ai 2) (ai 1))) (GV P w K (ai 1) (ai 2) (jV (sC P w K) (ao (ai 1) bb))) cN
def zc (P:Program) (w:World) (K:Fg) (sh:List Bool):TS:=
 aS (b5 (B2 P w K sh) (av 1)) (aS (cT (bf K (ai 0)) (av 2) (Jp P w K)) (cE (bJ [2] (bf K (ai 0)) (av 2) b3 (BA P w K (ai 1) (ai 2)))))
theorem tW {A B:Bool->Hp->Prop} {H:Hp} (h:A true H):b3 U H fun b H=>if b=true then A b H else B b H:=by
 show (if true=true then A true H else B true H)
 rw [if_pos rfl];exact h
theorem zA {P:Program} {w:World} {H:Hp} {O:List Addr} {vs:List V} {ds:List KB} {ks:List (List It)} {Q:VK} {Qn:St->Hp->Prop} (nd:O.Nodup) (inH:∀a∈O,H a≠none) (rs:Reps K (aC H O) vs [.list ds])
  (hk:kc ds=some ks) (hn:ks.length<=900) (hsh:∀k∈ks,k.map isT=sh)
  (q:∀v H' G,RetOk K H O ⟨.lst .leaf,.list ((dE ks).map .int)⟩ v H' G->Q v H'):zc P w K sh { nx:=Qn,rt:=Q } (L2.start cA vs) H:=by
 have hvl:vs.length=1:=rs.1
 match vs,hvl,rs with
 | [v0],_,rs=>
 have r0:=rs.2 0 v0 (.list ds) rfl rfl
 cases r0 with
 | @lst p ws _ hq hl hr=>
 obtain ⟨kl,kat⟩:=nF hk;have hb:(1000:Nat)<=sizeLine:=by decide
 have hs0:Same (aC H O) H:=hid_le
 intro d ob hd dd;have sHd:Same H (upd H d ob):=cb hd
 have hbd:aC H O d=none:=by unfold aC;split<;>first | rfl | exact hd
 refine ⟨.ref p,rfl,p,rfl,⟨ws,(hs0.trans sHd).seq hq⟩,fun k m U' H'=>m=ws.length-k/\k<=ws.length/\(∃x2,U'=[some (.ref p),some (.ref d),x2])/\D2 P w K H' sh d (lj 0 (dn (ks.take k)))/\Same H H',⟨ws.length,by simp,Nat.zero_le _,⟨none,rfl⟩,by simpa [dn,lj] using dd,sHd⟩,?_⟩
 have keyAt:∀(k:Nat),k<ws.length->∀H',Same H H'->∃x b,ws[k]?=some (.ref b)/\ks[k]?=some x/\K2 K H' x b/\x.map isT=sh:=fun k hk' H' sH=>by
  have hkd:k<ds.length:=by omega
  obtain ⟨x,e1,e2⟩:=kat k ds[k] (Ks hkd)
  obtain ⟨b,e3,e4⟩:=zq (hr k ws[k] ds[k] (Ks hk') (Ks hkd)) e2
  exact ⟨x,b,by rw [Ks hk',e3],e1,e4.mono fun c xs h=>aV (hs0.trans sH) h,hsh x (mem_of_getElem? e1)⟩
 rintro k m U' H' ⟨rfl,hk',⟨x2,rfl⟩,hD,sH⟩
 have hP:SqL K H' p ws:=(hs0.trans sH).seq hq
 by_cases hlt:k<ws.length
 case pos=>
  right
  obtain ⟨x,b,e1,e2,e3,e4⟩:=keyAt k hlt H' sH
  have hkk:k<ks.length:=by omega
  have ex:ks[k]=x:=by rw [Ks hkk] at e2;exact Option.some.inj e2
  refine ⟨⟨ws,_,hP,e1⟩,fun U2 H2=>(∃x2,U2=[some (.ref p),some (.ref d),x2])/\D2 P w K H2 sh d (lj 0 (dn (ks.take (k+1))))/\Same H H2,fun U2 H2 q2=>⟨ws.length-(k+1),by omega,rfl,hlt,q2⟩,?_⟩
  rintro v H2 ⟨rfl,hv⟩
  have ev:v=.ref b:=Option.some.inj ((hv ws hP).symm.trans e1)
  subst ev;rw [B6 hkk,ex];show Jp P w K _ [some (.ref p),some (.ref d),some (.ref b)] H2
  refine ⟨.ref b,rfl,.ref d,rfl,d,b,sh,_,x,rfl,rfl,hD,e3,e4,_,rfl,?_⟩
  by_cases hm:x∈dn (ks.take k)
  ·rw [Gi hm]
   refine cn ⟨⟨_,rfl⟩,?_,sH⟩
   unfold d0;rw [if_pos (memB_iff.mpr hm)];exact hD
  ·rw [GH hm]
   have hln:=Gz (ks:=ks) k (by omega)
   refine ck ⟨.ref d,rfl,d,sh,_,rfl,hD,.ref d,rfl,.ref b,rfl,d,b,sh,_,x,rfl,rfl,hD,e3,e4,by rw [GG];omega,GH hm,fun ob' hD'=>⟨⟨_,rfl⟩,?_,fun c o hc=>?_⟩⟩
   ·unfold d0
    rw [if_neg (fun z=>hm (memB_iff.mp z)),lh]
    rw [GG] at hD';simpa using hD'
   ·rw [bw (fun z=>by subst z;rw [hd] at hc;cases hc)]
    exact sH c o hc
 case neg=>
  left
  refine ⟨⟨ws,hP,by omega⟩,?_⟩
  have hke:ks.take k=ks:=take_of_length_le (by omega)
  rw [hke] at hD;show bJ [2] (bf K (ai 0)) (av 2) b3 (BA P w K (ai 1) (ai 2)) [some (.ref p),some (.ref d),x2] H' Q
  refine ⟨.ref p,rfl,p,rfl,⟨ws,hP⟩,fun L hL=>?_⟩
  have hbl:aD [2] [some (.ref p),some (.ref d),x2]=[some (.ref p),some (.ref d),none]:=by simp [aD]
  have hdL:d≠L:=fun z=>by
   subst z;obtain ⟨_,e,_⟩:=hD;rw [e] at hL
   cases hL
  have HL:H L=none:=sH.free hL
  refine ⟨fun i m ys H2=>m=ws.length-i/\i<=ws.length/\ys=((dE ks).take i).map V.int/\H2 L=some (.lst ys)/\D2 P w K H2 sh d (lj 0 (dn ks))/\Same H H2,⟨ws.length,by simp,Nat.zero_le _,by simp,bL,hD.mono (bw hdL) fun c xs h=>aV (cb hL) h,sH.trans (cb hL)⟩,?_⟩
  rintro i m ys H2 ⟨rfl,hi,rfl,hLs,hD2,sH2⟩
  refine ⟨hLs,?_⟩
  have hP2:SqL K H2 p ws:=(hs0.trans sH2).seq hq
  have nl:(dE ks).length=ws.length:=by unfold dE;rw [length_map];omega
  by_cases hlt2:i<ws.length
  case neg=>
   left
   refine ⟨⟨ws,hP2,by omega⟩,q _ _ [L] ⟨sH2,fun a ha=>by rw [List.mem_singleton.mp ha];exact HL,fun a ha=>by rw [List.mem_singleton.mp ha,hLs];exact Option.some_ne_none _,by simp,?_,rfl⟩⟩
   have ht:(dE ks).take i=dE ks:=take_of_length_le (by omega)
   rw [ht] at hLs;refine Own.mkLeaves hLs (by simp) fun j u d' h1 h2=>?_
   rw [getElem?_map] at h1 h2
   cases e3:(dE ks)[j]? with
   | none=>rw [e3] at h1;cases h1
   | some z=>
    rw [e3] at h1 h2
    cases h1
    cases h2;exact .int z
  case pos=>
   right
   obtain ⟨x,b,e1,e2,e3,e4⟩:=keyAt i hlt2 H2 sH2;refine ⟨⟨ws,_,hP2,e1⟩,by rw [length_map,length_take];omega,?_⟩
   rintro v H3 ⟨rfl,hv⟩
   have ev:v=.ref b:=Option.some.inj ((hv ws hP2).symm.trans e1)
   subst ev;rw [hbl];show Ga [some (.ref p),some (.ref d),none] [some (.ref p),some (.ref d),some (.ref b)]/\_
   refine ⟨⟨rfl,fun j u h=>?_⟩,?_⟩
   ·match j,h with
    | 0,h=>exact h
    | 1,h=>exact h
    | 2,h=>cases h
    | j+3,h=>cases h
   refine tW ?_
   have hm:x∈dn ks:=mem_dst.mpr (mem_of_getElem? e2)
   refine ⟨.ref d,rfl,.ref b,rfl,d,b,sh,_,x,_,rfl,rfl,hD2,e3,e4,Gi hm,hLs,ws.length-(i+1),by omega,rfl,hlt2,?_,bL,hD2.mono (bw hdL) fun c xs h=>vB hLs (fun xs z=>by cases z) (fun b xs z=>by cases z) h,fun c o hc=>?_⟩
   ·rw [take_succ,map_append]
    have:(dE ks)[i]?=some ((gj x (dn ks):Nat):Int):=by unfold dE;rw [getElem?_map,e2];rfl
    rw [this];simp
   ·rw [bw (fun z=>by subst z;rw [HL] at hc;cases hc)]
    exact sH2 c o hc
theorem iu {ds:List KB} {p:PV} (h:qT ds=.ok p):∃xs ks,ds=[.list xs]/\kc xs=some ks/\ks.length<=900/\zj ks=true/\p=⟨.lst .leaf,.list ((dE ks).map .int)⟩:=by
 unfold qT at h;split at h
 ·rename_i xs
  split at h
  ·rename_i ks e
   split at h
   ·rename_i c
    cases h;exact ⟨xs,ks,rfl,e,c.1,c.2,rfl⟩
   ·cases h
  ·cases h
 ·cases h
theorem Ae {P:Program} {w:World} {mg:Str->Option Value} {base:Heap} {f:Addr} {fd:FuncData} {k:Nat} {s_num:Stmt} (F:Fun K "numbered" "numbered" s_num f fd) (hm:mg "numbered"=some (.ref f)) (b:Binds K fd ["keys"] []) (n_len:mg "len"=none)
  (sc:aR cA ["keys"] (cf s_num)) (cp:d6 cA fT [0,1,2] [1] [0,1,2] [0,2] [0] (cf s_num)=true) (nm:iW cA fT=true)
  (bd:∀{X:Cx} (sh:List Bool),Cp X cA fT [0,1,2] [1] [0,1,2] [0,2] [0]->Rm X->PassesOwn (model X.prog X.w) X.A X.env X.xe->X.mg "len"=none->PSs X (fG s_num) (zc X.prog X.w X.K sh)):DefOk P w K mg base (k+1) "numbered" 1 qT:=by
 refine ⟨f,fd,["keys"],F.ok sc (fun vs H Q E h=>h.1) (fun cdv A outer s H vs Q E hr h=>?_),hm,F.kp,b⟩
 obtain ⟨hl,O,ds,nd,inH,rs,w'⟩:=h
 cases e:qT ds with
 | er c=>rw [e] at w';exact w'.elim
 | no=>rw [e] at w';exact w'.elim
 | ok p=>
  rw [e] at w';obtain ⟨xs,ks,rfl,e1,e2,e3,rfl⟩:=iu e;exact ⟨_,bd ((ks.headD []).map isT) (Cp.fn cp nm) hr.units PassesOwn.never n_len,zA nd inH rs e1 e2 (fun k hk=>of_decide_eq_true (List.all_eq_true.mp e3 k hk)) w'⟩
end T
namespace KC
open PySem PySem.Spec L2 T
open PyProof.Rows hiding St
variable {X:Cx}
noncomputable def cH:Stmt:=rL 16
theorem kf:aR cA ["keys"] (cf cH):=⟨rfl,rfl,rfl,by decide +kernel,rfl,by decide +kernel,by decide +kernel⟩
theorem lO:d6 cA fT [0,1,2] [1] [0,1,2] [0,2] [0] (cf cH)=true:=by kernel_rfl
theorem kX:iW cA fT=true:=by kernel_rfl
theorem nv {gl:List Str} {vs cs ls lo gs:List Nat} (S:Cp X cA gl vs cs ls lo gs) (i:Nat) (x:Str) (pos:Pos) (e:cA[i]?=some x) (hi:vs.contains i=true):PE X (.Name x pos) (ai i):=by
 have m:=S.nm x (mem_of_getElem? e)
 exact xI (by rw [S.hN];exact e) (S.vis i x e hi) m.1 m.2
theorem tj {scope:Scope} {p1 p2 p3 p4 p5 pos:Pos} (S:Cp X cA fT [0,1,2] [1] [0,1,2] [0,2] [0]) (hu:X.A.units+2<cLine) (h1:vi cA [2] [1] scope=true) (h2:d6 cA fT [1,2] [1] [2] [] [] scope=true) (hs:∀x,foldedSetIterable (.Name "keys" p5) X.env x=pure x) :
  PE X (.ListComp (.Subscript (.Name "numbers" p1) (.Name "key" p2) p3) [⟨.Name "key" p4,.Name "keys" p5,[],0⟩] scope pos) (bJ [2] (bf X.K (ai 0)) (av 2) b3 (BA X.prog X.w X.K (ai 1) (ai 2))):=by
 have hN:X.N.Nodup:=by rw [S.hN];exact S.nd
 have B:=fun cells C s₀ H₀ ex=>S.blk h2 cells C s₀ H₀ ex
 exact xQ (yY S h1) S.calm (nq (nv S 0 _ _ rfl rfl))
  (fun cells C s₀ H₀ ex=>mi (X:=L2.blk X scope cells C s₀ H₀ ex) (i:=2) hN (by show X.N[2]?=_;rw [S.hN];rfl) ((B cells C s₀ H₀ ex).loc 2 _ rfl rfl).1 ((B cells C s₀ H₀ ex).loc 2 _ rfl rfl).2)
  (fun cells C s₀ H₀ ex=>By)
  (fun cells C s₀ H₀ ex=>kI (X:=L2.blk X scope cells C s₀ H₀ ex) hu (nv (B cells C s₀ H₀ ex) 1 _ _ rfl rfl) (nv (B cells C s₀ H₀ ex) 2 _ _ rfl rfl) (fun _ _=>rfl)) hs
theorem lT (sh:List Bool) (S:Cp X cA fT [0,1,2] [1] [0,1,2] [0,2] [0]) (R:Rm X) (hp:PassesOwn (model X.prog X.w) X.A X.env X.xe) (n_len:X.mg "len"=none):PSs X (fG cH) (zc X.prog X.w X.K sh):=by
 have hN:X.N.Nodup:=by rw [S.hN];exact S.nd
 have hu:X.A.units+2<cLine:=Nat.lt_of_le_of_lt (by omega) R
 have g:∀(i:Nat) (x:Str),cA[i]?=some x->X.N[i]?=some x:=fun i x e=>by rw [S.hN];exact e
 have lc:∀(i:Nat) (x:Str),cA[i]?=some x->[0,1,2].contains i=true->Loc X.env.scope x/\(X.fn x=true\/X.env.scope.names.lookup x=some .local):=fun i x e hi=>S.loc i x e hi
 refine cK (qH hN (g 1 _ rfl) (lc 1 _ rfl rfl).1 (EZ sh) rfl (lc 1 _ rfl rfl).2) ?_
 refine cK (nu hp S.calm (nq (nv S 0 _ _ rfl rfl)) (mi hN (g 2 _ rfl) (lc 2 _ rfl rfl).1 (lc 2 _ rfl rfl).2) ?_ (fun _=>rfl)) ?_
 ·refine dv (dh (Bz (Fv hu (nv S 2 _ _ rfl rfl) (nv S 1 _ _ rfl rfl)) (by with_unfolding_all rfl)) ?_ pe)
  exact dv (kC hu (nv S 1 _ _ rfl rfl) (nv S 2 _ _ rfl rfl) (yU m4 (S.g (j:=0) rfl rfl).1 n_len uE (bK (nv S 1 _ _ rfl rfl) dF (aH rfl)) (S.g (j:=0) rfl rfl).2.2 (S.g (j:=0) rfl rfl).2.1 (aH rfl) rfl) rfl)
 ·exact dv (iH (tj S hu (by kernel_rfl) (by kernel_rfl) (fun _=>rfl)))
theorem kK {P:Program} {w:World} {K:Fg} {mg:Str->Option Value} {base:Heap} {f:Addr} {fd:FuncData} {k:Nat} (F:Fun K "numbered" "numbered" cH f fd) (hm:mg "numbered"=some (.ref f)) (b:Binds K fd ["keys"] []) (n_len:mg "len"=none):DefOk P w K mg base (k+1) "numbered" 1 qT:=
 Ae F hm b n_len kf lO kX fun sh S R hp n=>lT sh S R hp n
noncomputable def qv:FS:=(aI (aP false 3 (yJ (ak (ak (ae 0) (eK (.int 1))) (ae 1))))
  (bh (qh (bo g4 (ae 2)) (cy (aa (ae 3) (aa (ak (ak (ae 0) (eK (.int 0))) (ae 1)) af))) (cy (aa (ae 3) af)))))
noncomputable def bH:List KB->b9:=aQ 4 qv
noncomputable def gq:FS:=(bh (yR (aa (aG .leaf 2 (bA (ae 1)) aO (ak (ae 0) (ae 2))) af)))
noncomputable def bM:List KB->b9:=aQ 3 gq
noncomputable def fh:FS:=(bh (ah 1 qT (aa (yQ .leaf 2 3 (ak (ae 0) (eK (.int 2))) aO (cy (aa (ak (ae 1) (ae 2)) (aa (yJ (ah 2 bM (aa (ae 1) (aa (ae 3) af)))) af)))) af)))
noncomputable def aL:List KB->b9:=aQ 4 fh
noncomputable def gu:FS:=(aI (aP false 2 (ah 1 qT (aa (aG .leaf 4 (gm (aa (cX bZ (aa (ak (ae 0) (eK (.int 0))) af)) af)) aO (ah 3 bH (aa (ae 0) (aa (ae 4) (aa (ae 1) af))))) af)))
  (aI (aP false 3 (ah 2 aL (aa (ae 0) (aa (ae 2) af))))
  (aI (B1 1000 (bo aw (aE iw (ae 3) (ae 2)))
  (aI (aP false 2 (ae 3))
  (aP false 3 (ah 2 aL (aa (ae 0) (aa (ae 2) af))))))
  (bh (ae 2)))))
noncomputable def aM:List KB->b9:=aQ 5 gu
noncomputable def lM:FS:=(bh (cy (aa (qJ (ak (ae 0) (eK (.int 0)))) (aa (aG .leaf 1 (bA (ak (ae 0) (eK (.int 1)))) aO (qJ (ae 1))) (aa (aG .leaf 1 (bA (ak (ae 0) (eK (.int 2)))) aO (qJ (ae 1))) af)))))
noncomputable def dQ:List KB->b9:=aQ 2 lM
noncomputable def fm:FS:=(aI (aP false 3 (ah 3 dy (aa (ae 0) (aa (ae 1) (aa (ae 2) af)))))
  (aI (aP false 4 (ah 2 ax (aa (ae 0) (aa (aE aX (aE aX (ae 1) (eK (.int 1))) (ae 2)) af))))
  (aI (fz (bo aw (aE qN (aE bS (ae 4) (eK (.int 3))) (eK (.int 0)))) (aI (aP false 5 (bz .leaf (aa (bz .leaf (aa (eK (.str "a")) af)) (aa (bz .leaf (aa (eK (.str "a")) af)) (aa (bz .leaf (aa (eK (.str "b")) af)) af)))))
  (aP false 3 (cy (aa (ak (ae 3) (eK (.int 0))) (aa (aG .leaf 6 (gm (aa (cX bZ (aa (ak (ae 3) (eK (.int 0))) af)) af)) aO (ak (ae 5) (ah 3 au (aa (ae 4) (aa (ae 6) (aa (eK (.int 3)) af)))))) (aa (ak (ae 3) (eK (.int 2))) af)))))) bt)
  (aI (fz (bo aw (aE eC (aE bS (ae 4) (eK (.int 4))) (eK (.int 1)))) (aP false 3 (cy (aa (aG .leaf 6 (gm (aa (cX bZ (aa (ak (ae 3) (eK (.int 0))) af)) af)) aO (aE gp (ah 3 au (aa (ae 4) (aa (aE aX (eK (.int 30)) (ae 6)) (aa (eK (.int 9)) af)))) (eK (.int 8)))) (aa (ak (ae 3) (eK (.int 1))) (aa (ak (ae 3) (eK (.int 2))) af))))) bt)
  (bh (ah 1 dQ (aa (ae 3) af)))))))
noncomputable def bx:List KB->b9:=aQ 7 fm
end KC
namespace T
open PySem PySem.Spec L2
open PyProof.Rows hiding St
theorem tU:∀{l:List (List It)} {k:List It},k∈l->gj k l<l.length
 | a::l,k,h=>by
  unfold gj;split
  ·simp
  ·rename_i e
   have:=tU ((Kr h).resolve_left (fun z=>e z.symm))
   simp
   exact this
theorem GD:∀{l:List (List It)} {k:List It},k∈l->l[gj k l]?=some k
 | a::l,k,h=>by
  unfold gj;split
  ·rename_i e;simp [e]
  ·rename_i e
   rw [List.getElem?_cons_succ];exact GD ((Kr h).resolve_left (fun z=>e z.symm))
theorem wN {l:List (List It)} {a b:List It} (ha:a∈l) (hb:b∈l) (e:gj a l=gj b l):a=b:=by
 have h1:=GD ha
 rw [e,GD hb] at h1;exact (Option.some.inj h1).symm
theorem EL:∀{l m:List (List It)} {k:List It},k∈l->gj k (l++m)=gj k l
 | a::l,m,k,h=>by
  rw [cons_append];unfold gj;split
  ·rfl
  ·rename_i e
   rw [EL ((Kr h).resolve_left (fun z=>e z.symm))]
theorem EM:∀{l:List (List It)} {k:List It},k∉l->gj k (l++[k])=l.length
 | [],k,_=>by simp [gj]
 | a::l,k,h=>by
  rw [cons_append];unfold gj;rw [if_neg (fun e=>h (by rw [e];exact mem_cons_self)),EM (fun z=>h (Ku _ z)),length_cons]
theorem e9:∀{ks:List (List It)} (m:Nat),m<=ks.length->∀(c:Nat) x,(dn (ks.take m))[c]?=some x->gj x (dn (ks.take m))=c
 | ks,0,_,c,x,h=>by simp [dn] at h
 | ks,m+1,hm,c,x,h=>by
  have ih:=e9 (ks:=ks) m (by omega)
  rw [B6 (by omega)] at h ⊢
  unfold d0 at h ⊢
  split at h
  ·rename_i z
   rw [if_pos z];exact ih c x h
  ·rename_i z
   rw [if_neg z];have hn:ks[m]∉dn (ks.take m):=fun y=>z (memB_iff.mpr y)
   rw [List.getElem?_append] at h;split at h
   ·rename_i lt
    rw [EL (mem_of_getElem? h)];exact ih c x h
   ·rename_i lt
    rcases (by omega:c-(dn (ks.take m)).length=0\/0<c-(dn (ks.take m)).length) with e | e
    ·rw [e] at h
     cases h;rw [EM hn];omega
    ·rw [getElem?_eq_none (by simp;omega)] at h
     cases h
theorem ti {ks ks':List (List It)} (hl:ks.length=ks'.length) (h:∀i j (hi:i<ks.length) (hj:j<ks.length),ks[i]=ks[j]↔ks'[i]'(by omega)=ks'[j]'(by omega)):dE ks=dE ks':=by
 have key:∀m,m<=ks.length->(dn (ks.take m)).length=(dn (ks'.take m)).length/\∀i (hi:i<m) (hi1:i<ks.length) (hi2:i<ks'.length),gj ks[i] (dn (ks.take m))=gj ks'[i] (dn (ks'.take m)):=by
  intro m;induction m with
  | zero=>intro _;exact ⟨by simp [dn],fun i hi=>by omega⟩
  | succ m ih=>
   intro hm;obtain ⟨e1,e2⟩:=ih (by omega)
   have hk:m<ks.length:=by omega
   have hk':m<ks'.length:=by omega
   have inTake:∀{l:List (List It)} {x:List It},x∈dn (l.take m)↔∃i,∃(hi:i<l.length),i<m/\l[i]=x:=fun {l x}=>by
    rw [mem_dst,List.mem_take_iff_getElem];constructor
    ·rintro ⟨i,hi,e⟩
     exact ⟨i,by omega,by omega,e⟩
    ·rintro ⟨i,hi,hi2,e⟩
     exact ⟨i,by omega,e⟩
   have mem:ks[m]∈dn (ks.take m)↔ks'[m]∈dn (ks'.take m):=by
    rw [inTake,inTake];constructor
    ·rintro ⟨i,hi,hi2,e⟩
     exact ⟨i,by omega,hi2,(h i m hi hk).mp e⟩
    ·rintro ⟨i,hi,hi2,e⟩
     exact ⟨i,by omega,hi2,(h i m (by omega) hk).mpr e⟩
   rw [B6 hk,B6 hk'];unfold d0;by_cases c:ks[m]∈dn (ks.take m)
   ·have c':=mem.mp c
    rw [if_pos (memB_iff.mpr c),if_pos (memB_iff.mpr c')];refine ⟨e1,fun i hi hi1 hi2=>?_⟩
    by_cases e:i=m
    ·subst e
     obtain ⟨j,hj,hj2,ej⟩:=inTake.mp c;have ej':=(h j i hj hk).mp ej
     rw [<-ej,<-ej'];exact e2 j hj2 hj (by omega)
    ·exact e2 i (by omega) hi1 hi2
   ·have c':ks'[m]∉dn (ks'.take m):=fun z=>c (mem.mpr z)
    rw [if_neg (fun z=>c (memB_iff.mp z)),if_neg (fun z=>c' (memB_iff.mp z))]
    refine ⟨by rw [length_append,length_append,e1];rfl,fun i hi hi1 hi2=>?_⟩
    by_cases e:i=m
    ·subst e
     rw [EM c,EM c',e1]
    ·rw [EL (inTake.mpr ⟨i,hi1,by omega,rfl⟩),EL (inTake.mpr ⟨i,hi2,by omega,rfl⟩)]
     exact e2 i (by omega) hi1 hi2
 obtain ⟨_,e2⟩:=key ks.length (KA _);rw [take_of_length_le (KA _),take_of_length_le (by omega)] at e2
 unfold dE;apply List.ext_getElem
 ·simp [hl]
 ·intro i h1 h2
  have h1':i<ks.length:=by simpa using h1
  simp only [getElem_map]
  rw [e2 i h1' h1' (by omega)]
noncomputable def bp (ks:List (List It)):List Nat:=ks.map fun k=>gj k (dn ks)
theorem Gn {ks:List (List It)}:dE ks=(bp ks).map fun n:Nat=>(n:Int):=by
 unfold dE bp;rw [map_map];rfl
theorem oy {ks:List (List It)} {i j:Nat} (hi:i<ks.length) (hj:j<ks.length):(bp ks).getD i 0=(bp ks).getD j 0↔ks[i]=ks[j]:=by
 have e:∀{a:Nat} (ha:a<ks.length),(bp ks).getD a 0=gj ks[a] (dn ks):=fun {a} ha=>by
  unfold bp;simp [List.getD,ha]
 rw [e hi,e hj];exact ⟨fun z=>wN (mem_dst.mpr (getElem_mem hi)) (mem_dst.mpr (getElem_mem hj)) z,fun z=>by rw [z]⟩
theorem GK {ks:List (List It)} {i:Nat} (hi:i<ks.length):(bp ks).getD i 0<(dn ks).length:=by
 unfold bp;simp [List.getD,hi]
 exact tU (mem_dst.mpr (getElem_mem hi))
theorem pW {ks:List (List It)} {c:Nat} (h:c<(dn ks).length):∃i,i<ks.length/\(bp ks).getD i 0=c:=by
 obtain ⟨i,hi,e⟩:=getElem_of_mem (mem_dst.mp (getElem_mem h));refine ⟨i,hi,?_⟩
 have:=e9 (ks:=ks) ks.length (KA _) c (dn ks)[c] (by rw [take_of_length_le (KA _)];exact Ks h)
 rw [take_of_length_le (KA _)] at this;unfold bp;simp [List.getD,hi,e,this]
end T
namespace KC
open PySem PySem.Spec L2 T PySem.SeqAt
open PyProof.Rows hiding St
variable {Γ:Ev} {o:Bool} {n:Nat} {fb:F1} {N:List Nat}
theorem lD:∀a b:List Nat,PyData.eqvAll (a.map rm) (b.map rm)=(a==b)
 | [],[]=>by simp [PyData.eqvAll]
 | [],y::b=>by simp [PyData.eqvAll]
 | x::a,[]=>by simp [PyData.eqvAll]
 | x::a,y::b=>by
  rw [map_cons,map_cons,PyData.eqvAll,lD a b,PyData.eqv];have:((x:Int)==(y:Int))=(x==y):=by
   rw [Bool.eq_iff_iff];simp only [beq_iff_eq]
   omega
  rw [this];rfl
theorem wA {a b:List Nat}:iw (bG a) (bG b)=some (.bool (!(a==b))):=by
 show (if shaped (bG a)&&shaped (bG b) then some (PyData.bool (!PyData.eqv (.list (a.map rm)) (.list (b.map rm)))) else none)=_
 rw [nP,nP,Bool.and_self,if_pos rfl,PyData.eqv,lD]
theorem j5 {Γ1:Ev} {fa:F1} {s:Sh} {ds:List D} (ha:fa Γ=.ok ⟨s,.list ds⟩ Γ1) (h1:d9 ⟨s,.list ds⟩ ds=true):yJ fa Γ=.ok ⟨.leaf,.tuple ds⟩ Γ1:=by
 unfold yJ aU;rw [ha];simp only [Out.bind]
 rw [if_pos h1]
noncomputable def zU (w:Wd) (r:Nat):Int:=if own w 0 r then 0 else 1
noncomputable def mf (w:Wd) (o:Bool) (r:Nat):D:=.tuple (.tuple ((w.mks r).map .str)::if o then [.int (zU w r)] else [])
noncomputable def tK (w:Wd) (o:Bool) (r:Nat):List T.It:=.inr ((w.mks r).map .inr)::if o then [.inl (.inl (zU w r))] else []
theorem Hd:∀{l:List Str},xM (l.map .str)=some (l.map .inr)
 | []=>rfl
 | a::l=>by
  rw [map_cons,xM,Hd];rfl
theorem oI:∀{l:List Nat},xM (l.map rm)=some (l.map fun n:Nat=>.inl (n:Int))
 | []=>rfl
 | a::l=>by
  rw [map_cons,xM,oI];rfl
theorem IJ {w:Wd} {r:Nat}:vx (mf w o r)=some (tK w o r):=by
 unfold mf tK vx
 cases o with
 | false=>simp only [Bool.false_eq_true,if_false,gE,gF,Hd,Option.map_some]
 | true=>simp only [if_true,gE,gF,dG,Hd,Option.map_some]
theorem kb {d:Nat->D} {k:Nat->List T.It}:∀{l:List Nat},(∀r∈l,vx (d r)=some (k r))->kc (l.map d)=some (l.map k)
 | [],_=>rfl
 | a::l,h=>by
  rw [map_cons,kc,h a (by simp),kb fun r hr=>h r (by simp [hr])]
  rfl
theorem oX {d:Nat->D} {k:Nat->List T.It} (hn:n<=900) (h:∀r,r<n->vx (d r)=some (k r)) (sh:List Bool) (hs:∀r,r<n->(k r).map T.isT=sh):qT [.list ((List.range n).map d)]=.ok ⟨.lst .leaf,bG (bp ((List.range n).map k))⟩:=by
 unfold qT;dsimp only;rw [kb fun r hr=>h r (List.mem_range.mp hr)]
 have c:((List.range n).map k).length<=900/\zj ((List.range n).map k)=true:=by
  refine ⟨by simpa using hn,List.all_eq_true.mpr fun x hx=>?_⟩
  obtain ⟨r,hr,rfl⟩:=List.mem_map.mp hx;have hr:=List.mem_range.mp hr
  apply decide_eq_true
  have:(((List.range n).map k).headD []).map T.isT=sh:=by
   cases n with
   | zero=>omega
   | succ n=>
    rw [List.range_succ_eq_map];exact hs 0 (by omega)
  rw [this];exact hs r hr
 dsimp only;rw [if_pos c,Gn,<-GO]
section
variable {w:Wd}
theorem zT (ok:w.Ok) {i:Nat} {s:Sh} {r:Nat} (h0:Γ[i]?=some (KD w.enc)) (hb:fb Γ=.ok ⟨s,rm r⟩ Γ) (hr:r<w.n):ak (ak (ae i) (eK (.int 0))) fb Γ=.ok ⟨.leaf,.int (zU w r)⟩ Γ:=by
 obtain ⟨o,ho,e,h⟩:=ok.o_at hr;have:zU w r=o:=by
  unfold zU;rw [h 0];rcases ho with rfl | rfl<;>rfl
 rw [this,gM,gM,aj h0];simp only [Out.bind,aK,Wd.enc,fy,nW,yj]
 rw [hb];simp only [sx]
 rw [e]
theorem Gm (ok:w.Ok) {i:Nat} {s:Sh} {r:Nat} (h0:Γ[i]?=some (KD w.enc)) (hb:fb Γ=.ok ⟨s,rm r⟩ Γ) (hr:r<w.n):ak (ak (ae i) (eK (.int 1))) fb Γ=.ok ⟨.leaf,j9 (w.mks r)⟩ Γ:=by
 rw [gM,gM,aj h0];simp only [Out.bind,aK,Wd.enc,fy,nW,C6]
 rw [hb];simp only [sx]
 rw [ok.at1 hr]
theorem Hu (ok:w.Ok) {r:Nat} (hr:r<w.n):∃sh,bH [w.enc,rm r,.bool o]=.ok ⟨sh,mf w o r⟩/\sh=if o then .tup [.leaf,.leaf] else .tup [.leaf]:=by
 have m:=Gm ok (Γ:=bO 4 [w.enc,rm r,.bool o]) (i:=0) (fb:=ae 1) (s:=.leaf) rfl (aj rfl) hr
 have s1:=fx (i:=3) (j5 m rfl) rfl (by simp [bO])
 have ow:=zT ok (Γ:=(bO 4 [w.enc,rm r,.bool o]).set 3 (KD (.tuple ((w.mks r).map .str)))) (i:=0) (fb:=ae 1) (s:=.leaf) rfl (aj rfl) hr
 cases o with
 | true=>
  exact ⟨.tup [.leaf,.leaf],bj (az s1 (aW (xY (t:=true) (lU (s:=.leaf) (aj (i:=2) rfl)) (fun _=>de (ar (aj (i:=3) rfl) (ar ow ag)) rfl rfl) nofun) rfl)),rfl⟩
 | false=>
  exact ⟨.tup [.leaf],bj (az s1 (aW (xY (t:=false) (lU (s:=.leaf) (aj (i:=2) rfl)) nofun (fun _=>de (ar (aj (i:=3) rfl) ag) rfl rfl)) rfl)),rfl⟩
noncomputable def nA (N:List Nat) (r:Nat):Nat:=N.getD r 0
noncomputable def ux (w:Wd) (N:List Nat) (r:Nat):List Nat:=(List.range w.n).filter fun c=>((w.stp r).map (nA N)).contains c
theorem oC (hN:∀r,r<w.n->nA N r<w.n) (ok:w.Ok) {r c:Nat}:c∈ux w N r↔∃t∈w.stp r,nA N t=c:=by
 unfold ux;rw [List.mem_filter,contains_iff_mem,mem_map,mem_range];exact ⟨fun z=>z.2,fun ⟨t,h,e⟩=>⟨by rw [<-e];exact hN t (ok.stp_lt h),t,h,e⟩⟩
theorem iX {i:Nat} {s:Sh} {r:Nat} (h0:Γ[i]?=some (KD (bG N))) (hb:fb Γ=.ok ⟨s,rm r⟩ Γ) (hr:r<N.length):ak (ae i) fb Γ=.ok ⟨.leaf,rm (nA N r)⟩ Γ:=by
 refine xN (j:=r) (aj h0) hb (EJ (by rw [length_map];exact hr)) ?_ rfl
 rw [getElem?_map,Ks hr];simp [nA,List.getD,hr]
theorem qr (ok:w.Ok) (hl:N.length=w.n) (hN:∀r,r<w.n->nA N r<w.n) {r:Nat} (hr:r<w.n):bM [bG N,bG (w.stp r)]=.ok ⟨.lst .leaf,bG (ux w N r)⟩:=by
 have h24:=ok.h24
 have sl:=vz ok (r:=r)
 have c:=u5 (Γ:=bO 3 [bG N,bG (w.stp r)]) (s:=.leaf) (i:=2) (fi:=bA (ae 1)) (fe:=ak (ae 0) (ae 2)) rm (w.stp r) (fun t=>⟨.leaf,rm (nA N t)⟩) (st:=true) (cM (s:=.leaf) (aj rfl) rfl) (by simp [bO]) rfl (by omega) fun t ht=>⟨iX rfl (aj rfl) (by rw [hl];exact ok.stp_lt ht),rfl⟩
 have l30:(w.stp r).length<=30:=by
  have:w.stp r∈w.s:=by
   unfold Wd.stp;rw [Kt,Ks (by rw [ok.ls];exact hr)]
   exact getElem_mem _
  exact (ok.st _ this).2.1
 have e:PyData.list ((w.stp r).map fun t=>rm (nA N t))=bG ((w.stp r).map (nA N)):=by
  show PyData.list _=PyData.list _
  rw [map_map];rfl
 refine bj (aW (vu (s:=.lst .leaf) (l:=(w.stp r).map (nA N)) (n:=w.n) (ar (c.trans (by rw [e])) ag) (fun x hx=>?_) (by omega) (by rw [length_map];omega)) rfl)
 obtain ⟨t,ht,rfl⟩:=List.mem_map.mp hx;exact hN t (ok.stp_lt ht)
noncomputable def HX (w:Wd) (N:List Nat) (r:Nat):D:=.tuple [rm (nA N r),.tuple ((ux w N r).map rm)]
noncomputable def ib (w:Wd) (N:List Nat) (r:Nat):List T.It:=[.inl (.inl (nA N r:Int)),.inr ((ux w N r).map fun n:Nat=>.inl (n:Int))]
theorem HW {r:Nat}:vx (HX w N r)=some (ib w N r):=by
 unfold HX ib vx;simp only [gE,gF,dG,oI,Option.map_some]
theorem mU (ok:w.Ok) (hl:N.length=w.n) (hN:∀r,r<w.n->nA N r<w.n):aL [w.enc,bG N]=.ok ⟨.lst .leaf,bG (bp ((List.range w.n).map (ib w N)))⟩:=by
 have h24:=ok.h24
 have c:=mS (Γ:=bO 4 [w.enc,bG N]) (s:=.leaf) (i:=2) (j:=3) (fa:=ak (ae 0) (eK (.int 2))) (fe:=cy (aa (ak (ae 1) (ae 2)) (aa (yJ (ah 2 bM (aa (ae 1) (aa (ae 3) af)))) af))) (fun r=>bG (w.stp r)) w.n (fun r=>⟨.tup [.leaf,.leaf],HX w N r⟩) (st:=true) (by simp [bO,Wd.enc,fy,ok.z.s_range]) rfl rfl (by omega) rfl (by omega) fun r hr=>⟨de (ar (iX (i:=1) rfl (aj (d:=rm r) rfl) (by omega)) (ar (j5 (s:=.lst .leaf) (bR (ar (aj rfl) (ar (aj rfl) ag)) (qr ok hl hN hr) rfl rfl) rfl) ag)) rfl rfl,rfl⟩
 exact bj (aW (bR (ar c ag) (oX (by omega) (fun r _=>HW) [false,true] fun r _=>rfl) rfl rfl) rfl)
theorem fP:∀{a b:List Nat},(a.map fun n:Nat=>(.inl (n:Int):d8))=(b.map fun n:Nat=>(.inl (n:Int):d8))->a=b
 | [],[],_=>rfl
 | [],_::_,h=>by cases h
 | _::_,[],h=>by cases h
 | x::a,y::b,h=>by
  rw [map_cons,map_cons] at h;injection h with h1 h2
  injection h1 with h1
  rw [fP h2,Int.ofNat.inj h1]
structure CN (w:Wd) (o:Bool) (N:List Nat) (m:Nat):Prop where
 len:N.length=w.n
 m1:1<=m
 mn:m<=w.n
 lt:∀r,r<w.n->nA N r<m
 onto:∀c,c<m->∃r,r<w.n/\nA N r=c
 look:∀i j,i<w.n->j<w.n->nA N i=nA N j->tK w o i=tK w o j
 st:∀i j,i<w.n->j<w.n->nA N i=nA N j->∀t∈w.stp i,∃t'∈w.stp j,nA N t=nA N t'
structure GdN (w:Wd) (o:Bool) (N:List Nat):Prop where
 ks:∃ks:List (List T.It),ks.length=w.n/\N=bp ks
 look:∀i j,i<w.n->j<w.n->nA N i=nA N j->tK w o i=tK w o j
theorem tp {ks:List (List T.It)}:(bp ks).length=ks.length:=by unfold bp;rw [length_map]
theorem um {ks:List (List T.It)}:(dn ks).length<=ks.length:=by
 have:=Gz (ks:=ks) ks.length (KA _)
 rwa [take_of_length_le (KA _)] at this
theorem GdN.len (g:GdN w o N):N.length=w.n:=by
 obtain ⟨ks,h,rfl⟩:=g.ks;rw [tp,h]
theorem GdN.lt (g:GdN w o N):∀r,r<w.n->nA N r<w.n:=fun r hr=>by
 obtain ⟨ks,h,rfl⟩:=g.ks;have:=GK (ks:=ks) (i:=r) (by omega)
 have:=um (ks:=ks)
 show (bp ks).getD r 0<w.n
 omega
theorem yL {k:Nat->List T.It} {i j:Nat} (hi:i<w.n) (hj:j<w.n):nA (bp ((List.range w.n).map k)) i=nA (bp ((List.range w.n).map k)) j↔k i=k j:=by
 have:=oy (ks:=(List.range w.n).map k) (i:=i) (j:=j) (by simpa using hi) (by simpa using hj)
 rw [getElem_map,getElem_map,List.getElem_range,List.getElem_range] at this;exact this
noncomputable def BN (n:Nat):List (Nat×Nat):=(List.range n).flatMap fun i=>(List.range n).map fun j=>(i,j)
theorem mem_prL {i j:Nat}:(i,j)∈BN n↔i<n/\j<n:=by
 unfold BN;simp
noncomputable def uh (n:Nat) (N:List Nat):List (Nat×Nat):=(BN n).filter fun p=>nA N p.1==nA N p.2
theorem wc (h:n<=24):(BN n).length<=576:=by
 unfold BN;rw [List.length_flatMap];simp only [length_map,length_range]
 have:((List.range n).map fun _=>n).sum=n*n:=by
  rw [List.map_const',List.sum_replicate_nat,length_range]
 rw [this];exact Nat.mul_le_mul h h
theorem tL (g:GdN w o N) (ne:bp ((List.range w.n).map (ib w N))≠N):(uh w.n (bp ((List.range w.n).map (ib w N)))).length<(uh w.n N).length:=by
 have sub:∀i j,i<w.n->j<w.n->nA (bp ((List.range w.n).map (ib w N))) i=nA (bp ((List.range w.n).map (ib w N))) j->nA N i=nA N j:=fun i j hi hj e=>by
  have:=(yL hi hj).mp e
  unfold ib at this;injection this with h1 _
  injection h1 with h1
  injection h1 with h1
  omega
 have ex:∃p∈uh w.n N,¬((nA (bp ((List.range w.n).map (ib w N))) p.1==nA (bp ((List.range w.n).map (ib w N))) p.2)=true):=by
  refine Classical.byContradiction fun z=>ne ?_
  obtain ⟨ks,hk,rfl⟩:=g.ks;have pat:dE ((List.range w.n).map (ib w (bp ks)))=dE ks:=ti (by simp [hk]) fun i j hi hj=>by
   have hi':i<w.n:=by simpa using hi
   have hj':j<w.n:=by simpa using hj
   have a:=yL (w:=w) (k:=ib w (bp ks)) hi' hj'
   have b:nA (bp ks) i=nA (bp ks) j↔ks[i]=ks[j]:=oy (by omega) (by omega)
   simp only [getElem_map,List.getElem_range]
   rw [<-a,<-b];refine ⟨sub i j hi' hj',fun e=>Classical.byContradiction fun q=>z ⟨(i,j),List.mem_filter.mpr ⟨mem_prL.mpr ⟨hi',hj'⟩,by simpa using e⟩,by simpa using q⟩⟩
  rw [Gn,Gn] at pat;exact map_inj_right (f:=fun n:Nat=>(n:Int)) (fun a b e=>by omega) |>.mp pat
 have e:uh w.n (bp ((List.range w.n).map (ib w N)))=(uh w.n N).filter fun p=>nA (bp ((List.range w.n).map (ib w N))) p.1==nA (bp ((List.range w.n).map (ib w N))) p.2:=by
  unfold uh;rw [List.filter_filter];apply List.filter_congr
  rintro ⟨i,j⟩ h
  obtain ⟨hi,hj⟩:=mem_prL.mp h
  cases c:(nA (bp ((List.range w.n).map (ib w N))) i==nA (bp ((List.range w.n).map (ib w N))) j) with
  | false=>simp [c]
  | true=>
   have:=sub i j hi hj (eq_of_beq c)
   simp [c,this]
 rw [e];exact List.length_filter_lt_length_iff_exists.mpr ex
noncomputable abbrev GC (w:Wd) (o:Bool) (b:List Nat×List Nat):Ev:=[KD w.enc,KD (.bool o),KD (bG b.1),KD (bG b.2),none]
end
section
variable {w:Wd} {o:Bool} {N:List Nat} {m:Nat}
theorem xR (ok:w.Ok) {i:Nat} {s:Sh} {r:Nat} (h0:Γ[i]?=some (KD w.enc)) (hb:fb Γ=.ok ⟨s,rm r⟩ Γ) (hr:r<w.n):ak (ak (ae i) (eK (.int 2))) fb Γ=.ok ⟨.leaf,bG (w.stp r)⟩ Γ:=by
 rw [gM,gM,aj h0];simp only [Out.bind,aK,Wd.enc,fy,nW,C5]
 rw [hb];simp only [sx]
 rw [ok.at2 hr]
end
theorem qo {w:Wd} (ok:w.Ok):dQ [w.enc]=.ok ⟨W3,w.enc⟩:=by
 have i0:ak (ae 0) (eK (.int 0)) [KD w.enc,none]=.ok ⟨.leaf,.list w.os⟩ [KD w.enc,none]:=dq (j:=0) (aj rfl) aK rfl rfl rfl
 have i1:ak (ae 0) (eK (.int 1)) [KD w.enc,none]=.ok ⟨.leaf,.list (w.m.map j9)⟩ [KD w.enc,none]:=dq (j:=1) (aj rfl) aK rfl rfl rfl
 have i2:ak (ae 0) (eK (.int 2)) [KD w.enc,none]=.ok ⟨.leaf,.list (w.s.map bG)⟩ [KD w.enc,none]:=dq (j:=2) (aj rfl) aK rfl rfl rfl
 have h24:=ok.h24
 have c1:aG .leaf 1 (bA (ak (ae 0) (eK (.int 1)))) aO (qJ (ae 1)) [KD w.enc,none]=.ok ⟨.lst .leaf,.list (w.m.map j9)⟩ [KD w.enc,none]:=
  u5 j9 w.m (fun x=>⟨.lst .leaf,j9 x⟩) (st:=true) (cM (s:=.leaf) i1 rfl) (by simp) rfl (by rw [ok.lm];omega) fun x hx=>⟨Fb (aj rfl) rfl,rfl⟩
 have c2:aG .leaf 1 (bA (ak (ae 0) (eK (.int 2)))) aO (qJ (ae 1)) [KD w.enc,none]=.ok ⟨.lst .leaf,.list (w.s.map bG)⟩ [KD w.enc,none]:=
  u5 bG w.s (fun x=>⟨.lst .leaf,bG x⟩) (st:=true) (cM (s:=.leaf) i2 rfl) (by simp) rfl (by rw [ok.ls];omega) fun x hx=>⟨Fb (aj rfl) rfl,rfl⟩
 exact bj (aW (de (ar (Fb i0 rfl) (ar c1 (ar c2 ag))) rfl rfl) rfl)
noncomputable def qf (j:Int):D:=if j=2 then .list [.str "b"] else .list [.str "a"]
noncomputable abbrev xb:D:=.list [.list [.str "a"],.list [.str "a"],.list [.str "b"]]
theorem xa {j:Int}:∃xs,qf j=.list xs/\jS xs/\xs.length<=30/\An (qf j)=true:=by
 unfold qf;split
 ·exact ⟨_,rfl,fun d hd=>⟨"b",List.mem_singleton.mp hd,by decide +kernel⟩,by simp,by decide +kernel⟩
 ·exact ⟨_,rfl,fun d hd=>⟨"a",List.mem_singleton.mp hd,by decide +kernel⟩,by simp,by decide +kernel⟩
noncomputable abbrev mh (a l:Int) (xs os ms ss:List D) (c:Int) (x5:Option PV):Ev:=[KD (.list xs),KD (.int a),KD (.int l),KD (fy os ms ss),KD (.int c),x5,none]
theorem qp {xs:List D} (hx:eE xs) {a l:Int} (ha:0<=a) (hl:1<=l) (hl2:l<=24):∃w:Wd,w.Ok/\(w.n:Int)<=l/\bx [.list xs,.int a,.int l]=.ok ⟨W3,w.enc⟩:=by
 obtain ⟨n,os,ms,ss,e0,g,h1,h6⟩:=qm hx (at':=a) (lim:=l) ha hl hl2
 obtain ⟨c,hc⟩:=xS hx (k:=a+1+l) (by omega)
 have len:∀(os ms ss:List D) (x5:Option PV),os.length=n->cX bZ (aa (ak (ae 3) (eK (.int 0))) af) (mh a l xs os ms ss c x5)=.ok ⟨.leaf,.int (n:Int)⟩ (mh a l xs os ms ss c x5):=fun os ms ss x5 h=>dS (ar (dq (j:=0) (s2:=.leaf) (aj rfl) aK rfl rfl rfl) ag) (by simp [h])
 have st1:∃ms' x5,Gw (n:Int) n os ms' ss/\fz (bo aw (aE qN (aE bS (ae 4) (eK (.int 3))) (eK (.int 0)))) (aI (aP false 5 (bz .leaf (aa (bz .leaf (aa (eK (.str "a")) af)) (aa (bz .leaf (aa (eK (.str "a")) af)) (aa (bz .leaf (aa (eK (.str "b")) af)) af)))))
  (aP false 3 (cy (aa (ak (ae 3) (eK (.int 0))) (aa (aG .leaf 6 (gm (aa (cX bZ (aa (ak (ae 3) (eK (.int 0))) af)) af)) aO (ak (ae 5) (ah 3 au (aa (ae 4) (aa (ae 6) (aa (eK (.int 3)) af)))))) (aa (ak (ae 3) (eK (.int 2))) af)))))) bt (mh a l xs os ms ss c none)=.nx (mh a l xs os ms' ss c x5):=by
  have t:bo aw (aE qN (aE bS (ae 4) (eK (.int 3))) (eK (.int 0))) (mh a l xs os ms ss c none)=.ok (decide ((0:Int)<c % 3)) (mh a l xs os ms ss c none):=dt (s:=.leaf) (aB (aB (aj rfl) aK (dk (by omega))) aK rfl)
  cases q:decide ((0:Int)<c % 3) with
  | false=>
   rw [q] at t;exact ⟨ms,none,g,bU t nofun fun _=>rfl⟩
  | true=>
   rw [q] at t;have cm:aG .leaf 6 (gm (aa (cX bZ (aa (ak (ae 3) (eK (.int 0))) af)) af)) aO (ak (ae 5) (ah 3 au (aa (ae 4) (aa (ae 6) (aa (eK (.int 3)) af))))) (mh a l xs os ms ss c (KD xb))=.ok ⟨.lst .leaf,.list ((List.range n).map fun r:Nat=>qf (ff c (r:Int) 3))⟩ (mh a l xs os ms ss c (KD xb)):=by
    refine u5 rm (List.range n) (fun r=>⟨.leaf,qf (ff c (r:Int) 3)⟩) (st:=true) (o6 (s:=.leaf) (n:=n) (by omega) (ar (len os ms ss _ g.lo) ag)) (by simp) rfl (by simp;omega) fun r hr=>⟨?_,rfl⟩
    have hr:=List.mem_range.mp hr
    have d:=BB (c:=c) (k:=(r:Int)) (b:=3) (by omega) (by omega) (by omega) (by omega)
    have i:=EH (c:=c) (k:=(r:Int)) (b:=3) (by omega) (by omega) (by omega) (by omega)
    have cl:=bR (n:=3) (fl:=aa (ae 4) (aa (ae 6) (aa (eK (.int 3)) af))) (Γ:=(mh a l xs os ms ss c (KD xb)).set 6 (KD (rm r))) (ar (aj (i:=4) rfl) (ar (aj (i:=6) rfl) (ar aK ag))) d rfl rfl
    generalize ff c (r:Int) 3=z at cl i
    rcases (by omega:z=0\/z=1\/z=2) with rfl | rfl | rfl
    ·exact xN (j:=0) (aj (i:=5) rfl) cl rfl rfl rfl
    ·exact xN (j:=1) (aj (i:=5) rfl) cl rfl rfl rfl
    ·exact xN (j:=2) (aj (i:=5) rfl) cl rfl rfl rfl
   refine ⟨(List.range n).map fun r:Nat=>qf (ff c (r:Int) 3),KD xb,⟨g.lo,by simp,g.ls,g.o,fun a ha=>?_,g.s⟩,bU t (fun _=>az (fx (qI (s:=.leaf) (ar (qI (s:=.leaf) (ar aK ag) rfl rfl rfl) (ar (qI (s:=.leaf) (ar aK ag) rfl rfl rfl) (ar (qI (s:=.leaf) (ar aK ag) rfl rfl rfl) ag))) rfl rfl rfl) rfl (by simp)) (fx (de (ar (dq (j:=0) (s2:=.leaf) (aj rfl) aK rfl rfl rfl) (ar cm (ar (dq (j:=2) (s2:=.leaf) (aj rfl) aK rfl rfl rfl) ag))) rfl rfl) rfl (by simp))) nofun⟩
   obtain ⟨r,_,rfl⟩:=List.mem_map.mp ha;exact xa
 obtain ⟨ms1,x5,g1,e1⟩:=st1;have st2:∃os',Gw (n:Int) n os' ms1 ss/\fz (bo aw (aE eC (aE bS (ae 4) (eK (.int 4))) (eK (.int 1)))) (aP false 3 (cy (aa (aG .leaf 6 (gm (aa (cX bZ (aa (ak (ae 3) (eK (.int 0))) af)) af)) aO (aE gp (ah 3 au (aa (ae 4) (aa (aE aX (eK (.int 30)) (ae 6)) (aa (eK (.int 9)) af)))) (eK (.int 8)))) (aa (ak (ae 3) (eK (.int 1))) (aa (ak (ae 3) (eK (.int 2))) af))))) bt (mh a l xs os ms1 ss c x5)=.nx (mh a l xs os' ms1 ss c x5):=by
  have t:bo aw (aE eC (aE bS (ae 4) (eK (.int 4))) (eK (.int 1))) (mh a l xs os ms1 ss c x5)=.ok (c % 4==1) (mh a l xs os ms1 ss c x5):=dt (s:=.leaf) (aB (aB (aj rfl) aK (dk (by omega))) aK KC.eq_int)
  cases q:(c % 4==1) with
  | false=>
   rw [q] at t;exact ⟨os,g1,bU t nofun fun _=>rfl⟩
  | true=>
   rw [q] at t;have cm:aG .leaf 6 (gm (aa (cX bZ (aa (ak (ae 3) (eK (.int 0))) af)) af)) aO (aE gp (ah 3 au (aa (ae 4) (aa (aE aX (eK (.int 30)) (ae 6)) (aa (eK (.int 9)) af)))) (eK (.int 8))) (mh a l xs os ms1 ss c x5)=.ok ⟨.lst .leaf,.list ((List.range n).map fun r:Nat=>PyData.int (ff c (30+(r:Int)) 9 / 8))⟩ (mh a l xs os ms1 ss c x5):=by
    refine u5 rm (List.range n) (fun r=>⟨.leaf,.int (ff c (30+(r:Int)) 9 / 8)⟩) (st:=true) (o6 (s:=.leaf) (n:=n) (by omega) (ar (len os ms1 ss _ g1.lo) ag)) (by simp) rfl (by simp;omega) fun r hr=>⟨?_,rfl⟩
    have hr:=List.mem_range.mp hr
    exact aB (bR (ar (aj (i:=4) rfl) (ar (aB aK (aj (i:=6) rfl) nr) (ar aK ag))) (BB (c:=c) (k:=30+(r:Int)) (b:=9) (by omega) (by omega) (by omega) (by omega)) rfl rfl) aK (oW (by omega) (by omega))
   refine ⟨(List.range n).map fun r:Nat=>PyData.int (ff c (30+(r:Int)) 9 / 8),⟨by simp,g1.lm,g1.ls,fun a ha=>?_,g1.m,g1.s⟩,bU t (fun _=>fx (de (ar cm (ar (dq (j:=1) (s2:=.leaf) (aj rfl) aK rfl rfl rfl) (ar (dq (j:=2) (s2:=.leaf) (aj rfl) aK rfl rfl rfl) ag))) rfl rfl) rfl (by simp)) nofun⟩
   obtain ⟨r,hr,rfl⟩:=List.mem_map.mp ha;have hr:=List.mem_range.mp hr
   have i:=EH (c:=c) (k:=30+(r:Int)) (b:=9) (by omega) (by omega) (by omega) (by omega)
   rcases (by omega:ff c (30+(r:Int)) 9 / 8=0\/ff c (30+(r:Int)) 9 / 8=1) with e | e
   ·exact .inl (by rw [e])
   ·exact .inr (by rw [e])
 obtain ⟨os2,g2,e2⟩:=st2;obtain ⟨w,ok,ew,en⟩:=Cr g2 h1 (by omega)
 refine ⟨w,ok,by rw [en];exact h6,?_⟩
 have eT:=qo ok
 rw [ew] at eT ⊢;exact bj (az (fx (bR (ar (aj rfl) (ar (aj rfl) (ar (aj rfl) ag))) e0 rfl rfl) rfl (by simp [bO])) (az (Γ1:=mh a l xs os ms ss c none) (fx (bR (ar (aj rfl) (ar (aB (aB (aj rfl) aK nr) (aj rfl) nr) ag)) hc rfl rfl) rfl (by simp [bO])) (az e1 (az e2 (aW (bR (ar (aj (i:=3) rfl) ag) eT rfl rfl) rfl)))))
end KC
namespace T
open PySem PySem.Spec L2
open PyProof.Rows hiding St
variable {K:Fg} {fd:FuncData} {ps:List Str}
abbrev yP (x:Str) (s:Stmt) (ps:List Str) (us:List Value):Prop:=∀(kV doc pm:Value) (an:Option Addr) (cdv ct:Value),bindArgs (PySem.W.fnOf x x (yS s) (fG s) (cf s) .none kV doc pm an cdv ct) ⟨us,[]⟩=pure (ps.zip us)
abbrev qP (x:Str) (s:Stmt) (ps:List Str):Prop:=∀us:List Value,us.length=ps.length->yP x s ps us
section
variable {x:Str} {s:Stmt} {p1 p2 p3 p4 p5 p6:Str}
theorem Ba (h:∀a,yP x s [p1] [a]:=by exact fun _ _ _ _ _ _ _=>rfl):qP x s [p1]:=fun us hl=>match us,hl with | [_],_=>h _
theorem vd (h:∀a b,yP x s [p1,p2] [a,b]:=by exact fun _ _ _ _ _ _ _ _=>rfl):qP x s [p1,p2]:=fun us hl=>match us,hl with | [_,_],_=>h _ _
theorem oY (h:∀a b c,yP x s [p1,p2,p3] [a,b,c]:=by exact fun _ _ _ _ _ _ _ _ _=>rfl):qP x s [p1,p2,p3]:=fun us hl=>match us,hl with | [_,_,_],_=>h _ _ _
theorem F7 (h:∀a b c d,yP x s [p1,p2,p3,p4] [a,b,c,d]:=by exact fun _ _ _ _ _ _ _ _ _ _=>rfl):qP x s [p1,p2,p3,p4]:=fun us hl=>match us,hl with | [_,_,_,_],_=>h _ _ _ _
theorem Kj (h:∀a b c d e,yP x s [p1,p2,p3,p4,p5] [a,b,c,d,e]:=by exact fun _ _ _ _ _ _ _ _ _ _ _=>rfl):qP x s [p1,p2,p3,p4,p5]:=fun us hl=>match us,hl with | [_,_,_,_,_],_=>h _ _ _ _ _
theorem Ki (h:∀a b c d e f,yP x s [p1,p2,p3,p4,p5,p6] [a,b,c,d,e,f]:=by exact fun _ _ _ _ _ _ _ _ _ _ _ _=>rfl):qP x s [p1,p2,p3,p4,p5,p6]:=fun us hl=>match us,hl with | [_,_,_,_,_,_],_=>h _ _ _ _ _ _
end
def Ft (K:Fg) (mg:Str->Option Value) (n:Str) (s:Stmt):Prop:=∃f fd,mg n=some (.ref f)/\Fun K n n s f fd
theorem ft {h:Heap} {mg:Str->Option Value} {n:Str} {s:Stmt} {f:Addr} {od an:Option Addr} {sl:Array (Option Value)} {oc kV dc pm cd ct:Value} (X:K.In h) (G:h.Ns mainGlobals mg) (a:PySem.W.nsIn K mainGlobals n=some (some (.ref f))) (l:K.lookup f=some ⟨oc,od,.func (PySem.W.fnOf n n (yS s) (fG s) (cf s) .none kV dc pm an cd ct),sl⟩) (c:PySem.W.codeIn K cd n=true) (k:PySem.W.keepIn K (.ref f)=true):Ft K mg n s:=⟨f,_,PySem.W.mg_of X G a,ue (st:=s) l c k⟩
theorem nk {x:Str} {st:Stmt} {f:Addr} (F:Fun K x x st f fd) (b:qP x st ps):Binds K fd ps []:=F.binds fun kV doc pm an cdv ct us hl=>b us hl kV doc pm an cdv ct
def Aq (vs cs:List Nat):List Nat:=vs.filter fun i=>!cs.contains i
def fB (N gl ps:List Str) (vs cs gs:List Nat) (s:Stmt):Bool:=d6 N gl vs cs vs (Aq vs cs) gs (cf s)&&iW N gl&&(!(cf s).isCoroutine&&!(cf s).isGenerator&&decide (N.take ps.length=ps)&&(ps.all fun x=>xG (cf s) [.local,.cell] (some x))&&((cf s).names.all fun y=>!decide (y.2=.free)))
theorem yA {N gl:List Str} {vs cs gs:List Nat} {s:Stmt} (h:fB N gl ps vs cs gs s=true):d6 N gl vs cs vs (Aq vs cs) gs (cf s)=true/\iW N gl=true/\aR N ps (cf s):=by
 unfold fB at h;simp only [Bool.and_eq_true,decide_eq_true_eq,all_eq_true,Bool.not_eq_true',decide_eq_false_iff_not] at h
 obtain ⟨⟨h1,h2⟩,⟨⟨⟨h3,h4⟩,h5⟩,h6⟩,h7⟩:=h;refine ⟨h1,h2,(Gf h1).kind,h3,h4,(tq h2).1,h5,fun x hx=>?_,h7⟩
 obtain ⟨k,hk,q⟩:=BJ (h6 x hx);simp only [mem_cons,not_mem_nil,or_false] at hk
 rcases hk with rfl | rfl
 ·exact .inl q
 ·exact .inr q
structure In (p:Fg->(Str->Option Value)->Prop) (X:Cx) (P:Program) (w:World) (K:Fg) (mg:Str->Option Value) (base:Heap) (k:Nat):Prop where
 e1:X.prog=P
 e2:X.w=w
 e3:X.K=K
 e4:X.mg=mg
 e5:X.base=base
 rm:Room k X.A
 pp:p K mg
section
variable {p:Fg->(Str->Option Value)->Prop} {X Y:Cx} {P:Program} {w:World} {K:Fg} {mg:Str->Option Value} {base:Heap} {j k n:Nat} {x:Str} {s:Stmt} {ps:List Str} {g:FS} {den:List KB->b9} {ss:List Sh}
theorem In.r (I:In p X P w K mg base k):Rm X:=I.rm.units
theorem In.e (I:In p X P w K mg base k):p X.K X.mg:=by rw [I.e3,I.e4];exact I.pp
theorem In.c (I:In p X P w K mg base k) (h:DefOk P w K mg base j x n den) (hj:decide (j<=k)=true:=by first | exact rfl | exact decide_eq_true (by omega)):gz X x n den:=by
 obtain ⟨rfl,rfl,rfl,rfl,rfl,r,_⟩:=I;exact h.cal r hj
theorem In.m (I:In p X P w K mg base k) (h:DefOkM P w K mg base j x ss den) (hj:decide (j<=k)=true:=by first | exact rfl | exact decide_eq_true (by omega)):Bs X x ss den:=by
 obtain ⟨rfl,rfl,rfl,rfl,rfl,r,_⟩:=I;exact h.cal r hj
theorem Fx.i (F:Fx X Y) (I:In p X P w K mg base k):In p Y P w K mg base k:=⟨F.prog.trans I.e1,F.w.trans I.e2,F.K.trans I.e3,F.mg.trans I.e4,F.base.trans I.e5,by rw [F.A];exact I.rm,I.pp⟩
abbrev Bd (p:Fg->(Str->Option Value)->Prop) (P:Program) (w:World) (K:Fg) (mg:Str->Option Value) (base:Heap) (k:Nat) (N gl:List Str) (vs cs gs:List Nat) (s:Stmt) (g:FS):Prop:=∀X:Cx,Cp X N gl vs cs vs (Aq vs cs) gs->In p X P w K mg base k->PassesOwn (model X.prog X.w) X.A X.env X.xe->TQ.Q (PSs X (fG s) (tS X.K W0 g))
theorem IH {f:Addr} (F:Fun K x x s f fd) (e:p K mg) (N gl:List Str) (vs cs gs:List Nat) (h:fB N gl ps vs cs gs s=true) (hb:Bd p P w K mg base k N gl vs cs gs s g):bT P w K mg base eG (k+1) f fd ps (pq K ps.length (aQ N.length g)):=by
 obtain ⟨h1,h2,h3⟩:=yA h;exact AO F h3 fun cdv A outer s H E hr=>(hb _ (Cp.fn h1 h2) ⟨rfl,rfl,rfl,rfl,rfl,hr,e⟩ PassesOwn.never).p
theorem mk (F:Ft K mg x s) (e:p K mg) (ps:List Str) (b:qP x s ps) (rs gl:List Str) (vs cs gs:List Nat) (hb:Bd p P w K mg base k (ps++rs) gl vs cs gs s g) (h:fB (ps++rs) gl ps vs cs gs s=true:=by kernel_rfl):DefOk P w K mg base (k+1) x ps.length (aQ (ps++rs).length g):=by
 obtain ⟨f,fd,hm,F⟩:=F;exact ⟨f,fd,ps,IH F e _ gl vs cs gs h hb,hm,F.kp,nk F b⟩
theorem JI (F:Ft K mg x s) (e:p K mg) (ps:List Str) (b:qP x s ps) (hss:ss.length=ps.length) (rs gl:List Str) (vs cs gs:List Nat) (hb:Bd p P w K mg base k (ps++rs) gl vs cs gs s g) (h:fB (ps++rs) gl ps vs cs gs s=true:=by kernel_rfl):DefOkM P w K mg base (k+1) x ss (mX (ps++rs).length ss g):=by
 obtain ⟨f,fd,hm,F⟩:=F;obtain ⟨h1,h2,h3⟩:=yA h;exact ⟨f,fd,ps,w9 F h3 hss fun cdv A outer s H E hr=>(hb _ (Cp.fn h1 h2) ⟨rfl,rfl,rfl,rfl,rfl,hr,e⟩ PassesOwn.never).p,hm,F.kp,nk F b⟩
theorem J9 {fa:Addr} (F:Ft K mg x s) (e:p K mg) (q:Str) (b:qP x s [q]) (hfa:mg x=some (.ref fa)) (rs gl:List Str) (vs cs gs:List Nat) (hb:∀base,Bd p P w K mg base k ([q]++rs) gl vs cs gs s g) (h:fB ([q]++rs) gl [q] vs cs gs s=true:=by kernel_rfl) :
  ∃fd:FuncData,(∀(s:Shared) (v:Value),BindsTo s fd ⟨[v],[]⟩ [(q,v)])/\∀base:Heap,K.In base->base.Ns mainGlobals mg->bT P w K mg base eG (k+1) fa fd [q] (pq K 1 (aQ ([q]++rs).length g)):=by
 obtain ⟨f,fd,hm,F⟩:=F;have e':=hfa.symm.trans hm
 cases e'
 refine ⟨fd,fun s v=>?_,fun base _ _=>IH F e _ gl vs cs gs h (hb base)⟩
 obtain ⟨oc,od,kV,doc,pm,an,cdv,ct,osl,rfl,lk,hcd⟩:=F.ex;exact .of_eq (b [v] rfl kV doc pm an cdv ct)
section
variable {h:Heap} {a:Addr} {dd:Option Addr} {its:Array Value} {n:Nat} {sl:Array (Option Value)} {ds:List KB} (KX:K.In h) (G:h.Ns mainGlobals mg)
include KX G
theorem gn (z:PySem.W.nsIn K mainGlobals x=some none):mg x=none:=PySem.W.mg_none_of KX G z
theorem gi {i:Int} {t:Tok} (z:PySem.W.nsIn K mainGlobals x=some (some (.int i t))):lZ K mg x (.int i):=xo (PySem.W.mg_of KX G z)
theorem gt (z:PySem.W.nsIn K mainGlobals x=some (some (.ref a))) (l:K.lookup a=some ⟨.type "tuple",dd,.seq its n,sl⟩) (c:A8 its ds=true):lZ K mg x (.tuple ds):=xn (PySem.W.mg_of KX G z) l c
end
theorem walkG {m:List KB->b9} {l:PySem.W.OpenLaw} {q:Program} {loose:List Str} {XP:(Str->Option Value)->Heap->Prop} {YP:World->Heap->Prop} {d:DefRec} {K:Params->Fg} (lt:∀ns:List Int,ns.length<=63->m [.list (ns.map .int)]=.ok ⟨.leaf,.bool true⟩) (hr:Room j callerA) (hn:l.most=some 63) (hdf:d.params.defaults=[])
  (hY:∀(w:World) (h:Heap),YP w h->(K w.params).In h)
  (F:∀(w:World) (mg:Str->Option Value) (fa:Addr) (h:Heap),(K w.params).In h->h.Ns mainGlobals mg->mg d.name=some (.ref fa) ->
   ∃fd:FuncData,(∀(s:Shared) (u:Value),BindsTo s fd ⟨[u],[]⟩ [("script",u)])/\∀base:Heap,(K w.params).In base->base.Ns mainGlobals mg->bT l.prog w (K w.params) mg base eG j fa fd ["script"] (pq (K w.params) 1 m)) :
  PySem.W.WalkO q loose XP YP l.row.toRowW d [] (fun f vs=>PySem.call f vs):=
 L2.walk_of (n:=63) (k:=j) (x := "script") (CX:=fun _=>eG) (sp:=fun w=>pq (K w.params) 1 m) hn (by decide) hdf hr hY F (fun _ _ a ns hl _ hS=>Au (lt ns hl) hS) fun _ _ _ _ _ z=>z
end
end T
namespace TQ
open PySem PySem.Spec L2 T
open PyProof.Rows hiding St
variable {x:Str}
section
variable {X:Cx} {N gl:List Str} {vs cs ls lo gs:List Nat} {W:XW} {a b c e:Expr} {es:List Expr} {pos p:Pos} {fa fb fc:F1} {fl:FL} {ga gb:FB} {g1 g2 g:FS}
theorem aq (S:Cp X N gl vs cs ls lo gs) (i:Nat) (hN:N[i]?=some x:=by exact rfl) (hv:vs.contains i=true:=by exact rfl):Q (PE X (.Name x pos) (tE X.K W (ae i))):=w_cv S i hN hv
theorem aY (ha:Q (PE X e (tE X.K W fa))) (hr:Q (PA X es (tA X.K W fl))) (hs:xF e=false:=by exact rfl):Q (PA X (e::es) (tA X.K W (aa fa fl))):=w_da_cons ha hr (aH hs)
theorem aT (ha:Q (PE X e (tE X.K W fa))) (hs:xF e=false:=by exact rfl):Q (PA X [e] (tA X.K W (aa fa af))):=w_da_cons ha w_da_nil (aH hs)
theorem cx (ha:Q (PE X a (tE X.K W fa))) (hb:Q (PE X b (tE X.K W fb))) (hs:EW b:=by exact fun _ _=>rfl):Q (PE X (.Subscript a b pos) (tE X.K W (ak fa fb))):=w_de_idx ha hb hs
theorem cB {n:Nat} {den:List KB->b9} (S:Cp X N gl vs cs ls lo gs) (j:Nat) (C:gz X x n den) (ha:Q (PA X (e::es) (tA X.K W fl))) (hj:gl[j]?=some x:=by exact rfl) (hg:gs.contains j=true:=by exact rfl) (he:xF e=false:=by exact rfl) (hpl:(backTo pos (starEach es X.env)).any (·.1)=false:=by exact rfl):Q (PE X (.Call (.Name x p) (e::es) [] pos) (tE X.K W (ah n den fl))):=w_cc S j hj hg C ha (aH he) hpl
theorem dU (S:Cp X N gl vs cs ls lo gs) (own:Bool) (i:Nat) {pos':Pos} (ha:Q (PE X a (tE X.K W fa))) (hi:N[i]?=some x:=by exact rfl) (hl:ls.contains i=true:=by exact rfl) (hs:swapsWith a (some (.Name x pos')) pos.line X.env=pure false:=by exact rfl):Q (PS X (.Assign [.Name x pos'] a pos) (tS X.K W (aP own i fa))):=qZ S own i hi hl hs ha
theorem rl (S:Cp X N gl vs cs ls lo gs) (j:Nat) (hm:X.mg "len"=none) (ha:Q (PA X (e::es) (tA X.K W fl))) (hj:gl[j]?=some ("len":Str):=by exact rfl) (hg:gs.contains j=true:=by exact rfl) (he:xF e=false:=by exact rfl) (hpl:(backTo pos (starEach es X.env)).any (·.1)=false:=by exact rfl):Q (PE X (.Call (.Name "len" p) (e::es) [] pos) (tE X.K W (cX bZ fl))):=rg S j hj hg hm ha (aH he) hpl
theorem fw {op:CmpOp} {r:R2} {g:KB->KB->Option KB} (k:Ck X op r g) (ha:Q (PE X a (tE X.K W fa))) (hb:Q (PE X b (tE X.K W fb))) (hm:behindInMarks op b=false:=by with_unfolding_all rfl):Q (PT X (.Compare a [op] [b] pos) (tT X.K W (bo aw (aE g fa fb)))):=w_ct k ha hb hm
theorem u9 {op:CmpOp} {r:R2} {g:KB->KB->Option KB} (k:Ck X op r g) (ha:Q (PE X a (tE X.K W fa))) (hb:Q (PE X b (tE X.K W fb))) (hm:behindInMarks op b=false:=by with_unfolding_all rfl):Q (PE X (.Compare a [op] [b] pos) (tE X.K W (aE g fa fb))):=HG k ha hb hm
theorem dR (ha:Q (PE X a (tE X.K W fa))):Q (PSs X [.Return (some a) pos] (tS X.K W (bh fa))):=mq (qW ha)
theorem j8 {scope:Scope} {px:Pos} {iter elt:Expr} {ifs:List Expr} {fi:FI} {fe:F1} {fc:FB} (vs' cs' gs':List Nat) (S:Cp X N gl vs cs ls lo gs) (i:Nat) (hi':Q (PI X (.Name x px) iter (tI X.K W fi))) (hc:vh X N gl vs' cs' [i] [] gs' fun Y=>Q (PF Y ifs (tT Y.K W0 fc))) (he:vh X N gl vs' cs' [i] [] gs' fun Y=>Q (PE Y elt (tE Y.K W0 fe))) (hx:N[i]?=some x:=by exact rfl) (h1:je N i cs scope=true:=by kernel_rfl) (h2:d6 N gl vs' cs' [i] [] gs' scope=true:=by kernel_rfl) (hs:∀x,foldedSetIterable iter X.env x=pure x:=by exact fun _=>rfl):Q (PE X (.ListComp elt [⟨.Name x px,iter,ifs,0⟩] scope pos) (tE X.K W (aG .leaf i fi fc fe))):=HF S .leaf i hx h1 h2 hi' hc he hs
end
end TQ
namespace T
open PySem PySem.Spec L2
open PyProof.Rows hiding St
variable {b it:Addr} {K:Fg} {O' bs:List Addr} {ep:Nat} {sh:List Bool} {kvs:List (List It×V)} {g:Nat->Nat->Bool} {ps:List (Nat×Nat)}
section
variable {K:Fg} {H:Hp} {O:List Addr} {U:St} {Γ Γ1:Ev} {W:XW} {f:F1} {fb:FB} {Q:VK} {QB:Bool->Hp->Prop}
theorem G8:∀n:Nat,(List.replicate n ([]:List Addr)).flatten=[]
 | 0=>rfl
 | n+1=>by rw [List.replicate_succ,flatten_cons,G8 n];rfl
theorem jE (nd:O.Nodup) (inH:∀a∈O,H a≠none) (hl:U.length=Γ.length) (hs:∀(i:Nat) p,Γ[i]?=some (some p)->p.s=.leaf/\∃v,U[i]?=some (some v)/\Rep K (aC H O) v p.d):EnvOk K H O (List.replicate Γ.length []) H U Γ:=by
 have e:=G8 Γ.length
 refine ⟨hl,List.length_replicate,Same.refl H,by rw [e,append_nil];exact nd,by rw [e,append_nil];exact inH,by rw [e];exact fun _ z=>(nomatch z),fun i p h=>?_⟩
 obtain ⟨h1,v,h2,h3⟩:=hs i p h;have hi:i<Γ.length:=(Kw h).1
 refine ⟨by rw [h1];rfl,v,[],h2,by rw [getElem?_replicate,if_pos hi],?_⟩
 rw [h1,e,append_nil];exact .leaf h3
theorem AQ {b:Bool} (E:EnvOk K H O (List.replicate Γ.length []) H U Γ) (hf:fb Γ=.ok b Γ1) (q:∀H',Same H H'->QB b H'):tT K W fb U H QB:=by
 refine ⟨_,_,_,_,E,?_⟩
 rw [hf];exact fun H' Fs' s _ _=>q H' s
theorem rj {H:Hp} {vs:List V} {xs:List Int} (hl:vs.length=(xs.map PySem.PyData.int).length) (hr:∀(i:Nat) v d,vs[i]?=some v->(xs.map PySem.PyData.int)[i]?=some d->Rep K H v d):vs=xs.map V.int:=by
 rw [length_map] at hl;apply ext_getElem?
 intro i;by_cases hi:i<vs.length
 ·have hi2:i<xs.length:=by omega
  have q:=hr i vs[i] (.int xs[i]) (Ks hi) (by rw [getElem?_map,Ks hi2];rfl)
  rw [Ks hi,getElem?_map,Ks hi2];generalize vs[i]=u at q
  cases q;rfl
 ·rw [getElem?_eq_none (by omega),getElem?_eq_none (by rw [length_map];omega)]
theorem IT {xs:List Int} (E:EnvOk K H O (List.replicate Γ.length []) H U Γ) (hf:f Γ=.ok ⟨.leaf,.list (xs.map .int)⟩ Γ1) (q:∀p H',Same H H'->SqL K H' p (xs.map V.int)->Q (.ref p) H'):tE K W f U H Q:=by
 refine ⟨_,_,_,_,E,?_⟩
 rw [hf];intro v H' G Fs' A
 cases A.own with
 | leaf r=>
  cases r with
  | @lst p vs _ hq hl hr=>
   rw [rj hl hr] at hq;exact q p H' A.same (hid_le.seq hq)
end
theorem GA {H:Hp} {O:List Addr} (s:∀a∈O,a∈O'):Same (aC H O') (aC H O):=fun b o hb=>by
 unfold aC at hb ⊢
 split at hb
 ·cases hb
 ·rename_i nb
  rw [if_neg fun z=>nb (s b z)]
  exact hb
theorem oo {O:List Addr} {H:Hp} {s:Sh} {F:List Addr} {v:V} {d:D} (o:Own K O' H s F v d):s.isView=false->(∀a∈F,a∉O)->(∀a∈O,a∈O')->Rep K (aC H O) v d:=by
 induction o with
 | view _=>intro h;cases h
 | leaf r=>intro _ _ h;exact r.mono (GA h)
 | @lst s p vs ds Fs hv hp hl _ _ hi ih=>
  intro _ hf hO;refine .lst (.inl (.inl (h9 hp (hf p mem_cons_self)))) hl fun i v d h1 h2=>?_
  have hF:i<Fs.length:=by have:=(Kw h2).1;omega
  exact ih i v d Fs[i] h1 h2 (Ks hF) hv (fun a ha=>hf a (Ku _ (List.mem_flatten.mpr ⟨_,getElem_mem hF,ha⟩))) hO
 | @tup ss p vs ds Fs hv hp np hl hl2 hl3 _ hi ih=>
  intro _ hf hO;refine .tup (.inl (.inl (h9 hp fun z=>np (hO p z)))) hl fun i v d h1 h2=>?_
  have hd:=(Kw h2).1
  have hF:i<Fs.length:=by omega
  have hS:i<ss.length:=by omega
  exact ih i v d Fs[i] ss[i] h1 h2 (Ks hF) (Ks hS) (hv _ (getElem_mem hS)) (fun a ha=>hf a (List.mem_flatten.mpr ⟨_,getElem_mem hF,ha⟩)) hO
theorem oU {H:Hp} {O:List Addr} {U:St} {Γ Γ1:Ev} {W:XW} {f:F1} {Q:VK} {p:PV} (inH:∀a∈O,H a≠none) (E:EnvOk K H O (List.replicate Γ.length []) H U Γ) (hf:f Γ=.ok p Γ1) (hv:p.s.isView=false) (q:∀v H',Same H H'->Rep K (aC H' O) v p.d->Q v H'):tE K W f U H Q:=by
 refine ⟨_,_,_,_,E,?_⟩
 rw [hf];intro v H' G Fs' A
 refine q v H' A.same (oo A.own hv (fun a ha z=>?_) fun a ha=>Kp _ (Ko _ ha))
 rcases A.new a (Kp _ ha) with y | y
 ·rw [G8] at y;cases y
 ·exact inH a z y
section
variable {prog:Program} {w:World} {A:Around} {E:Value->Shared->Prop} {s:Shared}
noncomputable def EAt (h:Heap) (d:Addr) (bs:List Addr) (ep:Nat):Prop:=∃o es,h.get? d=some o/\o.ExactDict/\o.data=.dict es ep/\es.toList.map (·.key)=bs.map Value.ref
theorem EAt.at {h h':Heap} {d:Addr} (x:EAt h d bs ep) (k:∀o,h.get? d=some o->h'.get? d=some o):EAt h' d bs ep:=let ⟨o,es,ho,r⟩:=x;⟨o,es,k o ho,r⟩
theorem EAt.ty {d:Addr} (x:EAt s.heap d bs ep):s.TypeIs (.ref d) "dict":=let ⟨o,_,ho,hc,_⟩:=x;⟨o,ho,hc.1⟩
theorem EAt.lt {h:Heap} {d:Addr} (x:EAt h d bs ep):d<h.objs.size:=let ⟨_,_,ho,_⟩:=x;Heap.lt_size ho
theorem EAt.size {es:Array DictEntry} (h:es.toList.map (·.key)=bs.map Value.ref):es.size=bs.length:=by
 have:=congrArg List.length h
 simpa using this
theorem yu {d:Addr} {Q:Value->Shared->Prop} (hd:(d==sysModules)=false) (hm:EAt s.heap d bs ep)
  (hQ:Q (.ref s.heap.objs.size) { s with heap:=s.heap.push { cls:=.type "dict_keyiterator",data:=.fields #[.ref d,.int 0 0,.int bs.length 0,.int ep 0] } }):wpAny (model prog w) A (pyIter (.ref d)) Q E s:=by
 have hT:=hm.ty
 obtain ⟨o,es,ho,hc,hdat,hk⟩:=hm;have hsz:=EAt.size hk
 refine wpAny_pyIter_slot hT PySem.F.slot_dict_iter (wpAny_call_entry PySem.F.slot_dict_iter hT PySem.F.entry_dict_iter ?_ (PySem.F.args_dict_iter_1 _))
 unfold Builtin.«dict.__iter__» Builtin.Dict.dictSlotNone
 refine Kx (Kx (wpAny_notOrdered_dict hT ?_))
 show wpAny _ _ (pure (Value.ref d)) _ _ s
 refine Ky ?_
 show wpAny _ _ (Builtin.Dict.showsAll d >>= _) _ _ s
 unfold Builtin.Dict.showsAll;rw [if_neg (by rw [hd];exact Bool.false_ne_true)]
 refine Kx (Ky (Kx (wpAny_dictEntries ho hdat (Kx (wpAny_dictEpoch ho hdat ?_)))))
 refine Kx (wpAny_newObj_type (Ky ⟨_,rfl, "dict_keyiterator",_,⟨_,Heap.get?_push_size _ rfl,rfl⟩,PySem.F.slot_dict_keyiterator_next.lookup,?_⟩))
 simpa [rawInt,hsz] using hQ
theorem ym {d:Addr} {i:Nat} {Q:Option Value->Shared->Prop} (hit:s.heap.IsKeyIter it d i bs.length ep) (hm:EAt s.heap d bs ep) (hx:bs[i]?=some b)
  (hQ:∀h',h'.IsKeyIter it d (i+1) bs.length ep->Heap.SameBut it s.heap h'->Q (some (.ref b)) { s with heap:=h' }):wpAny (model prog w) A (pyNext (.ref it)) Q E s:=by
 have ty:=hit.typeIs
 obtain ⟨o,ho,hc,hd⟩:=hit;obtain ⟨od,es,hod,hcd,hdd,hk⟩:=hm;have hsz:=EAt.size hk
 unfold pyNext;refine Kx (wpAny_attempt (wpAny_callSpecial?_slot (name:=Str.ofString "__next__") ty PySem.F.slot_dict_keyiterator_next
  (wpAny_call_entry PySem.F.slot_dict_keyiterator_next ty PySem.F.entry_dict_keyiterator_next ?_ (PySem.F.args_dict_keyiterator_next_1 _))))
 refine Kx (Ky (Kx (Kx ?_)))
 first | refine Kx (wpAny_typeNameOfWhole_keyiter ty (Ky ?_)) | refine Kx (wpAny_typeNameOf_keyiter ty (Ky ?_))
 refine Kx (wpAny_fieldsOf ho hd ?_)
 simp only [show Builtin.Dict_items.ownsTuple "dict_keyiterator"=false by decide,Bool.false_eq_true,if_false]
 show wpAny _ _ (if (Value.ref d==Value.none)=true then _ else _) _ _ s
 rw [if_neg (show ¬((Value.ref d==Value.none)=true) from Bool.false_ne_true)];refine Kx (Ky (Kx (wpAny_dictEntries hod hdd ?_)))
 rw [if_neg (by rw [hsz];simp)]
 refine Kx (Ky (Kx (wpAny_dictEpoch hod hdd ?_)))
 rw [if_neg (by simp)]
 refine Ky ?_
 have hlt:i<es.size:=by rw [hsz];exact (Kw hx).1
 have hkey:es[i].key=.ref b:=by
  have q:(es.toList.map (·.key))[i]?=some (Value.ref b):=by rw [hk,getElem?_map,hx];rfl
  rw [getElem?_map,Array.getElem?_toList,Array.getElem?_eq_getElem hlt] at q;exact Option.some.inj q
 simp only [show ¬((i:Int)<0) from by omega,if_false,Int.toNat_natCast,Array.getElem?_eq_getElem hlt]
 refine Kx ?_
 first | refine Kx (wpAny_typeNameOfWhole_keyiter ty (Ky ?_)) | refine Kx (wpAny_typeNameOf_keyiter ty (Ky ?_))
 refine Kx (wpAny_isOneOf_keyiter ty ?_)
 show wpAny _ _ (setField (.ref it) 1 (rawInt ((i:Int)+1)) >>= _) _ _ s
 refine Kx (wpAny_setField ho hd (by simp) ?_)
 have hit':(s.heap.update it (Obj.mapFields (·.setIfInBounds 1 (rawInt ((i:Int)+1))))).IsKeyIter it d (i+1) bs.length ep:=
  ⟨_,Heap.get?_update_self _ ho (Obj.isFreed_of_fields (Obj.data_mapFields hd _)),(Obj.cls_mapFields ..).trans hc,by rw [Obj.data_mapFields hd];simp [rawInt]⟩
 refine Kx (wpAny_holding (Kx (wpAny_isOneOf_keyiter (s:={ s with heap:=s.heap.update it (Obj.mapFields (·.setIfInBounds 1 (rawInt ((i:Int)+1)))) }) hit'.typeIs ?_)))
 show wpAny _ _ (pure es[i].key) _ _ _
 rw [hkey];exact Ky (Ky ⟨_,rfl,Ky (hQ _ hit' (Heap.SameBut.update ..))⟩)
theorem DQ {d:Addr} {i:Nat} {Q:Option Value->Shared->Prop} (hh:A.handled=none) (hit:s.heap.IsKeyIter it d i bs.length ep) (hm:EAt s.heap d bs ep) (hx:bs.length<=i)
  (hQ:∀h',Heap.ExtBut it s.heap h'->Q none { s with heap:=h' }):wpAny (model prog w) A (pyNext (.ref it)) Q E s:=by
 have ty:=hit.typeIs
 obtain ⟨o,ho,hc,hd⟩:=hit;obtain ⟨od,es,hod,hcd,hdd,hk⟩:=hm;have hsz:=EAt.size hk
 unfold pyNext;refine Kx (wpAny_attempt (wpAny_callSpecial?_slot (name:=Str.ofString "__next__") ty PySem.F.slot_dict_keyiterator_next
  (wpAny_call_entry PySem.F.slot_dict_keyiterator_next ty PySem.F.entry_dict_keyiterator_next ?_ (PySem.F.args_dict_keyiterator_next_1 _))))
 refine Kx (Ky (Kx (Kx ?_)))
 first | refine Kx (wpAny_typeNameOfWhole_keyiter ty (Ky ?_)) | refine Kx (wpAny_typeNameOf_keyiter ty (Ky ?_))
 refine Kx (wpAny_fieldsOf ho hd ?_)
 simp only [show Builtin.Dict_items.ownsTuple "dict_keyiterator"=false by decide,Bool.false_eq_true,if_false]
 show wpAny _ _ (if (Value.ref d==Value.none)=true then _ else _) _ _ s
 rw [if_neg (show ¬((Value.ref d==Value.none)=true) from Bool.false_ne_true)];refine Kx (Ky (Kx (wpAny_dictEntries hod hdd ?_)))
 rw [if_neg (by rw [hsz];simp)]
 refine Kx (Ky (Kx (wpAny_dictEpoch hod hdd ?_)))
 rw [if_neg (by simp)]
 refine Ky ?_
 simp only [show ¬((i:Int)<0) from by omega,if_false,Int.toNat_natCast,Array.getElem?_eq_none (show es.size<=i by rw [hsz];exact hx)]
 refine Kx ?_
 first | refine Kx (wpAny_typeNameOfWhole_keyiter ty (Ky ?_)) | refine Kx (wpAny_typeNameOf_keyiter ty (Ky ?_))
 show wpAny _ _ (setField (.ref it) 0 .none >>= _) _ _ s
 refine Kx (wpAny_setField ho hd (by simp) ?_)
 show wpAny _ _ (newExc (.type "StopIteration") [] >>= _) _ _ _
 refine Kx ?_
 simp only [newExc,newTuple]
 refine Kx (wpAny_newObj_type ?_ (by size_fits))
 refine Kx (m:=firstArgMember _ _) (wpAny_of_eq (a:=Value.none) (by first | rfl | (simp only [firstArgMember];rfl)) ?_)
 refine wpAny_newObj_type ?_ (by size_fits)
 simp only [raiseNew]
 refine Kx (wpAny_handled ?_)
 rw [show A.in1.handled=none from hh];refine Kx (Ky (wpAny_throw ?_))
 refine Kx (wpAny_isInstance (T := "StopIteration") (b:=true) ⟨_,Heap.get?_push_size _ rfl,rfl⟩ isSubtype_stop ?_)
 exact Ky (hQ _ (((Heap.SameBut.update ..).extBut.push _).push _))
theorem y2 (hh:A.handled=none) (I d:Addr) (hne:d≠I) (bs:List Addr) (ep:Nat) :
  Walks prog w A I [I,d] [I] bs.length (fun i v=>∃b,bs[i]?=some b/\v=.ref b) (fun i h=>h.IsKeyIter I d i bs.length ep/\EAt h d bs ep) where
 sub:=fun b hb=>by simp at hb;simp [hb]
 frame:=fun _ _ _ st hk=>⟨st.1.at fun o e=>hk I (by simp) o e,st.2.at fun o e=>hk d (by simp) o e⟩
 item:=fun i s Q E hi st hQ=>by
  have hx:bs[i]?=some bs[i]:=Ks hi
  refine ym st.1 st.2 hx fun h' hit' hs'=>?_
  exact hQ _ h' s.toks ⟨_,hx,rfl⟩ ⟨hit',st.2.at fun o e=>hs'.extBut d o hne e⟩ fun b o hb e=>hs'.extBut b o (fun h=>hb (by simp [h])) e
 done:=fun s Q E st hQ=>DQ hh st.1 st.2 (KA _) fun h' he'=>hQ h' s.toks fun b o hb e=>he' b o (fun h=>hb (by simp [h])) e
 self:=fun _ _ _ _ st hQ=>wpAny_pyIter_keyiter st.1 hQ
theorem HV {d:Addr} (lo:(d==sysModules)=false):PySem.W.KdlSrc prog w "dict" d d bs.length (fun i v=>∃b,bs[i]?=some b/\v=.ref b) (fun h=>EAt h d bs ep) where
 type:=fun _ hm=>hm.ty
 there:=fun _ hm=>⟨hm.lt,hm.lt⟩
 keep:=fun _ _ hm hk=>hm.at fun o e=>hk d (.inl rfl) o e
 notList:=by decide
 notTuple:=by decide
 hint:=fun _ _ _ _ hm hq=>PySem.W.kdl_hint_dict hm.ty hq
 iter:=fun _ _ hh hm=>⟨_,_,(fun _ _ hq=>yu lo hm hq),y2 hh _ d (Nat.ne_of_lt hm.lt) bs ep,⟨⟨_,Heap.get?_push_size _ rfl,rfl,rfl⟩,hm.at fun o e=>Kz _ e⟩⟩
end
theorem yp {H:Hp} {xs:List (List It×Addr×Value)} (r:KX K H sh kvs xs):Paired (fun (p:List It×V) b=>K2 K H p.1 b) kvs (xs.map (·.2.1)):=by
 induction r with
 | nil=>exact .nil
 | cons q _ ih=>exact .cons q.2.2.1 ih
theorem j0:∀{bs:List Addr},Vals (bs.map V.ref) (bs.map Value.ref)
 | []=>.nil
 | b::bs=>.cons rfl j0
noncomputable def rN (P:Program) (w:World) (K:Fg) (td ty tv:TE):TS:=fun D U H=>tv U H fun v H1=>td U H1 fun x H2=>ty U H2 fun y H3=>∃a b sh kvs ks,x=.ref a/\y=.ref b/\D2 P w K H3 sh a kvs/\K2 K H3 ks b/\ks.map isT=sh/\kvs.length<1000 /\
 ∀ob,D2 P w K (upd H3 a ob) sh a (pO kvs ks v)->D.nx U (upd H3 a ob)
theorem Av {H:Hp} {xs:List (List It×Addr×Value)} {ks:List It} {v:V} {r:Value} (rv:RelV v r) (q:KX K H sh kvs xs):KX K H sh (kvs.map fun kv=>if kv.1=ks then (kv.1,v) else kv) (xs.map (putAt ks r)):=by
 induction q with
 | nil=>exact .nil
 | @cons p x l l' h _ ih=>
  refine .cons ?_ ih
  unfold putAt;dsimp only;by_cases e:p.1=ks
  ·rw [if_pos e,if_pos (h.1▸e)]
   exact ⟨h.1,h.2.1,h.2.2.1,rv⟩
  ·rw [if_neg e,if_neg (h.1▸e)]
   exact h
section
variable {X:Cx} {o i e f value:Expr} {pos pos' tpos apos cpos:Pos} {td ty tv tx:TE}
theorem oe (hu:X.A.units+2<cLine) (ho:PE X o td) (hi:PE X i ty) (hv:PE X value tv) (hs:swapsWith value (some (.Subscript o i pos')) pos.line X.env=pure false) :
  PS X (.Assign [.Subscript o i pos'] value pos) (rN X.prog X.w X.K td ty tv):=by
 intro pins s U H D I h;refine wpAny_Assign_Subscript (bg (hv pins s U H _ I h) fun r s1 ⟨v,H1,I1,rv,q1⟩=>bg (ho pins s1 U H1 _ I1 q1) fun u s2 ⟨x,H2,I2,rx,q2⟩=>bg (hi pins s2 U H2 _ I2 q2) fun iv s3 ⟨y,H3,I3,ry,a,b,sh,kvs,ks,ex,ey,⟨xs,e,rr,nd,hz,hd⟩,k,hsh,hl,q3⟩=>?_) hs
 subst ex ey;obtain rfl:u=Value.ref a:=rx
 obtain rfl:iv=Value.ref b:=ry
 have dd:=xT I3 e rr nd
 have hb:(1000:Nat)<=sizeLine:=by decide
 have is:(cg kvs ks).isSome=(atKey xs ks).isSome:=by
  have q:=(rr.val ks).isSome_eq
  rw [Option.isSome_map] at q;exact q
 refine wpAny_setItem_heap (hsz:=by omega) (gK hu) ⟨uX I3 k,hsh⟩ dd fun h' dd' hs'=>?_
 obtain ⟨q,es,ep,hq,h2,h3,h4,_,h5⟩:=dd'
 have m:∀ys c zs,SqT X.K H3 c zs->SqT X.K (upd H3 a (jW X.prog X.w sh a ys)) c zs:=fun ys c zs hc=>by
  rcases hc with hc | hc
  ·left
   rcases hc with hc | ⟨o',hc⟩
   ·exact .inl (by rw [bw (fun z=>by subst z;rw [e] at hc;cases hc)];exact hc)
   ·exact .inr ⟨o',by rw [bw (fun z=>by subst z;rw [e] at hc;cases hc)];exact hc⟩
  ·exact .inr hc
 have I4:=EK (t':=s3.toks+(cS X.prog X.w sh).draws ks) (ob:=jW X.prog X.w sh a (storedH xs ks b r)) I3 (by rw [e];exact True.intro) hs' ⟨q,hq⟩ (Bw ⟨q,es,ep,hq,h2,h3,h4⟩)
 refine ⟨U,_,I4,q3 _ ⟨storedH xs ks b r,bL,?_,h5,?_,hd⟩⟩
 ·unfold pO storedH
  rw [Fc,is];split
  ·exact (Av rv rr).mono (m _)
  ·exact Paired.snoc (rr.mono (m _)) ⟨rfl,hsh,k.mono (m _),rv⟩
 ·unfold storedH
  split
  ·rw [length_map,<-rr.len];omega
  ·rw [length_append,length_singleton,<-rr.len];omega
end
noncomputable def ky (i j:Nat):List It:=[.inl (.inl (i:Int)),.inl (.inl (j:Int))]
theorem BX {i j a b:Nat} (h:ky i j=ky a b):i=a/\j=b:=by
 simp only [ky,List.cons.injEq,Sum.inl.injEq,and_true] at h
 omega
noncomputable def gA (ps:List (Nat×Nat)) (g:Nat->Nat->Bool):List (List It×V):=ps.map fun p=>(ky p.1 p.2,.bl (g p.1 p.2))
noncomputable def yb (g:Nat->Nat->Bool) (i j:Nat) (c:Bool):Nat->Nat->Bool:=fun a b=>if a=i/\b=j then c else g a b
noncomputable def DG (P:Program) (w:World) (K:Fg) (H:Hp) (a:Addr) (ps:List (Nat×Nat)) (g:Nat->Nat->Bool):Prop:=D2 P w K H [false,false] a (gA ps g)
theorem Ez {g:Nat->Nat->Bool} {i j:Nat}:∀{ps:List (Nat×Nat)},(i,j)∈ps->cg (gA ps g) (ky i j)=some (.bl (g i j))
 | (a,b)::ps,h=>by
  by_cases e:ky a b=ky i j
  ·obtain ⟨rfl,rfl⟩:=BX e
   exact Ca rfl
  ·refine (xX (p:=(ky a b,V.bl (g a b))) (r:=gA ps g) e).trans (Ez ((Kr h).resolve_left fun z=>e ?_))
   cases z;rfl
theorem B3 {g:Nat->Nat->Bool} {i j:Nat}:∀{ps:List (Nat×Nat)},(i,j)∉ps->cg (gA ps g) (ky i j)=none
 | [],_=>rfl
 | (a,b)::ps,h=>by
  have e:¬ky a b=ky i j:=fun e=>h (by obtain ⟨rfl,rfl⟩:=BX e;exact mem_cons_self)
  exact (xX (p:=(ky a b,V.bl (g a b))) (r:=gA ps g) e).trans (B3 fun z=>h (Ku _ z))
theorem oG {i j:Nat} {c:Bool}:pO (gA ps g) (ky i j) (.bl c)=gA (if (i,j)∈ps then ps else ps++[(i,j)]) (yb g i j c):=by
 have key:∀ps:List (Nat×Nat),((gA ps g).map fun kv=>if kv.1=ky i j then (kv.1,V.bl c) else kv)=gA ps (yb g i j c):=fun ps=>by
  unfold gA;rw [map_map];refine map_congr_left fun p _=>?_
  simp only [Function.comp]
  by_cases e:ky p.1 p.2=ky i j
  ·rw [if_pos e]
   unfold yb;rw [if_pos (BX e)]
  ·rw [if_neg e]
   unfold yb;rw [if_neg fun z=>e (by rw [z.1,z.2])]
 by_cases h:(i,j)∈ps
 ·rw [if_pos h]
  unfold pO;rw [Fc,Ez h,if_pos (show (some (V.bl (g i j))).isSome=true from rfl),key]
 ·rw [if_neg h,sI _ (B3 h)]
  unfold gA;rw [map_append];congr 1
  ·refine map_congr_left fun p hp=>?_
   unfold yb;rw [if_neg];rintro ⟨rfl,rfl⟩
   exact h hp
  ·simp [yb]
theorem BW {H:Hp} {i j:Nat}:K2 K (upd H b (.tup [.int (i:Int),.int (j:Int)])) (ky i j) b:=⟨_,.inl (.inl bL),.cons rfl (.cons rfl .nil)⟩
theorem yr {H:Hp} {i j:Nat} (h:K2 K H (ky i j) b):SqT K H b [.int (i:Int),.int (j:Int)]:=by
 obtain ⟨vs,h,p⟩:=h
 cases p with
 | cons e p=>
  cases p with
  | cons e2 p=>
   cases p
   cases e
   cases e2;exact h
theorem DG.grow {P:Program} {w:World} {H H':Hp} {a:Addr} (x:DG P w K H a ps g) (s:Same H H'):DG P w K H' a ps g:=by
 obtain ⟨xs,h1,h2,h3⟩:=x;exact ⟨xs,s _ _ h1,h2.mono fun c xs=>aV s,h3⟩
theorem wm {H:Hp} (h:Paired (fun (p:List It×V) b=>K2 K H p.1 b) (gA ps g) bs):bs.length=ps.length/\∀(k:Nat) (p:Nat×Nat),ps[k]?=some p->∃b,bs[k]?=some b/\SqT K H b [.int (p.1:Int),.int (p.2:Int)]:=by
 induction ps generalizing bs with
 | nil=>cases h;exact ⟨rfl,fun k p e=>by simp at e⟩
 | cons q ps ih=>
  cases h with
  | @cons _ b _ bs h1 h2=>
   obtain ⟨l,r⟩:=ih h2;refine ⟨by simp [l],fun k p e=>?_⟩
   cases k with
   | zero=>cases e;exact ⟨b,rfl,yr h1⟩
   | succ k=>exact r k p (by simpa using e)
end T
namespace KC
open PySem PySem.Spec L2 T PySem.SeqAt
open PyProof.Rows hiding St
variable {n a b:Nat} {U:St} {o:Bool} {N:List Nat}
noncomputable def yk (w:Wd) (h:Nat->Nat->Bool) (i j:Nat):Bool:=((w.stp i).all fun t=>(w.stp j).any fun r=>h t r)&&(w.stp j).all fun r=>(w.stp i).any fun t=>h t r
noncomputable def nO (w:Wd) (o:Bool) (i j:Nat):Bool:=(w.mks i==w.mks j)&&(!o||zU w i==zU w j)
noncomputable def ik (n i j:Nat):List (Nat×Nat):=((List.range i).flatMap fun a=>(List.range n).map fun b=>(a,b))++(List.range j).map fun b=>(i,b)
noncomputable def v9 (n:Nat):List (Nat×Nat):=ik n n 0
theorem mem_psT {i j:Nat}:(a,b)∈ik n i j↔(a<i/\b<n)\/(a=i/\b<j):=by
 unfold ik;rw [mem_append,List.mem_flatMap,mem_map];constructor
 ·rintro (⟨x,h1,h2⟩ | ⟨x,h1,h2⟩)
  ·obtain ⟨y,h3,h4⟩:=List.mem_map.mp h2
   cases h4;exact .inl ⟨List.mem_range.mp h1,List.mem_range.mp h3⟩
  ·cases h2
   exact .inr ⟨rfl,List.mem_range.mp h1⟩
 ·rintro (⟨h1,h2⟩ | ⟨rfl,h2⟩)
  ·exact .inl ⟨a,List.mem_range.mpr h1,List.mem_map.mpr ⟨b,List.mem_range.mpr h2,rfl⟩⟩
  ·exact .inr ⟨b,List.mem_range.mpr h2,rfl⟩
theorem mem_psN:(a,b)∈v9 n↔a<n/\b<n:=by
 unfold v9;rw [mem_psT];constructor
 ·rintro (h | ⟨_,h⟩)
  ·exact h
  ·exact absurd h (Nat.not_lt_zero _)
 ·exact .inl
theorem kD {i j:Nat}:ik n i (j+1)=ik n i j++[(i,j)]:=by
 unfold ik;rw [List.range_succ,map_append,append_assoc];rfl
theorem kE {i:Nat}:ik n (i+1) 0=ik n i n:=by
 unfold ik;rw [List.range_succ,List.flatMap_append];simp
theorem GJ {i j:Nat}:(ik n i j).length=i*n+j:=by
 unfold ik;rw [length_append,length_map,length_range];congr 1
 induction i with
 | zero=>simp
 | succ i ih=>
  rw [List.range_succ,List.flatMap_append,length_append,ih];simp [Nat.succ_mul]
structure Rt (w:Wd) (o:Bool) (R:Nat->Nat->Prop):Prop where
 sm:∀i j,i<w.n->j<w.n->R i j->nO w o i j=true
 fo:∀i j,i<w.n->j<w.n->R i j->∀t∈w.stp i,∃r∈w.stp j,R t r
 ba:∀i j,i<w.n->j<w.n->R i j->∀r∈w.stp j,∃t∈w.stp i,R t r
theorem prB_iff {w:Wd} {h:Nat->Nat->Bool} {i j:Nat}:yk w h i j=true↔(∀t∈w.stp i,∃r∈w.stp j,h t r=true)/\∀r∈w.stp j,∃t∈w.stp i,h t r=true:=by
 unfold yk;simp only [Bool.and_eq_true,all_eq_true,any_eq_true]
noncomputable def Lk (w:Wd) (o:Bool) (i j:Nat):Prop:=∃R,Rt w o R/\R i j
noncomputable def Cw (a b:Nat):TE:=jq (ao (ai a) (ao (ai b) bb))
noncomputable def ID (K:Fg):List V->Hp->VK->Prop:=fun xs H Q=>∃p ys,xs=[.ref p]/\(SqL K H p ys\/SqT K H p ys)/\Q (.int ys.length) H
noncomputable def SD (d:Addr) (H H':Hp):Prop:=∀c o,c≠d->H c=some o->H' c=some o
theorem SD.upd {d:Addr} {H:Hp} {o:HO}:SD d H (upd H d o):=fun c u n h=>by rw [bw n];exact h
theorem SD.same {d:Addr} {H0 H H':Hp} (s:Same H0 H) (hd:H0 d=none) (x:SD d H H'):Same H0 H':=fun c o h=>x c o (fun z=>by subst z;rw [hd] at h;cases h) (s c o h)
section
variable {P:Program} {w:World} {K:Fg} {Hb H:Hp} {v0:V} {wd:Wd} {d:Addr} {o:Bool}
theorem Dj {c:Nat} {ds:List KB} {xs:List KB} {Q:VK} (he:wd.enc=.tuple ds) (hc:ds[c]?=some (.list xs)) (r:Rep K Hb v0 wd.enc) (s:Same Hb H) (h0:U[0]?=some (some v0)) (q:∀p vs,SqL K Hb p vs->vs.length=xs.length->(∀(i:Nat) v d,vs[i]?=some v->xs[i]?=some d->Rep K Hb v d)->Q (.ref p) H):rz (Dd K) (ai 0) (tC (.int (c:Int))) U H Q:=by
 refine ⟨v0,h0,?_⟩
 rw [he] at r
 cases r with
 | @tup p vs _ hq hl hr=>
  have hlt:=(Kw hc).1
  have hl2:c<vs.length:=by omega
  have r2:=hr c vs[c] _ (Ks hl2) hc
  refine .inr (.inl ⟨p,_,(c:Int),vs[c],rfl,rfl,aV s hq,EG (Ks hl2),?_⟩)
  generalize vs[c]=u at r2
  cases r2 with
  | @lst p2 rows _ hq2 hl2 hr2=>exact q p2 rows hq2 hl2 hr2
end
theorem GF {ps:List (Nat×Nat)} {g:Nat->Nat->Bool}:(gA ps g).length=ps.length:=by unfold gA;rw [length_map]
section
variable {P:Program} {w:World} {K:Fg} {Hb H0 H:Hp} {v0:V} {wd:Wd} {d:Addr} {o:Bool}
theorem vl {a b:V}:([a,b]:List V).length<=sizeLine:=Nat.le_trans (by decide:2<=1000) (by decide)
end
noncomputable def ze (K:Fg):TE:=jV (ID K) (ao (rz (Dd K) (ai 0) (tC (.int 0))) bb)
section
variable {P:Program} {w:World} {K:Fg} {Hb H0 H:Hp} {v0:V} {wd:Wd} {d f:Addr} {o:Bool} {g:Nat->Nat->Bool}
theorem yf {Q:VK} (ok:wd.Ok) (r:Rep K Hb v0 wd.enc) (sb:Same Hb H) (h0:U[0]?=some (some v0)) (q:Q (.int (wd.n:Int)) H):ze K U H Q:=by
 refine Dj (wd:=wd) (c:=0) (ds:=[.list wd.os,.list (wd.m.map j9),.list (wd.s.map bG)]) rfl rfl r sb h0 fun p us hq hl hr=>⟨p,us,rfl,.inl (sb.seq hq),?_⟩
 have hos:wd.os.length=wd.n:=ok.g.lo
 rw [hl,hos];exact q
end
theorem HZ {R S:List Nat} (h:bG R=bG S):R=S:=(map_inj_right (f:=rm) fun a b e=>Int.ofNat_inj.mp (PyData.int.inj e)).mp (PyData.list.inj h)
theorem HI {R S:List Str} (h:j9 R=j9 S):R=S:=(map_inj_right (f:=PyData.str) fun a b e=>PyData.str.inj e).mp (PyData.list.inj h)
theorem xf {w v:Wd} (ok:w.Ok) (ov:v.Ok) (h:w.enc=v.enc):w=v:=by
 have h:=PyData.tuple.inj h
 injection h with h1 h
 injection h with h2 h
 injection h with h3 _
 have h1:=PyData.list.inj h1
 have h2:=(map_inj_right (f:=j9) fun a b e=>HI e).mp (PyData.list.inj h2)
 have h3:=(map_inj_right (f:=bG) fun a b e=>HZ e).mp (PyData.list.inj h3)
 have hn:w.n=v.n:=by rw [<-ok.ls,<-ov.ls,h3]
 cases w
 cases v
 cases hn
 cases h1
 cases h2
 cases h3;rfl
noncomputable def Lc (w:Wd) (o:Bool) (N:List Nat):Prop:=∀i j,i<w.n->j<w.n->Lk w o i j->nA N i=nA N j
section
variable {w:Wd}
theorem lkK_iff {i j:Nat}:tK w o i=tK w o j↔nO w o i j=true:=by
 unfold tK nO;have inj:∀{a b:List Str},(a.map Sum.inr:List d8)=b.map Sum.inr↔a=b:=fun {a b}=>map_inj_right fun x y e=>Sum.inr.inj e
 cases o<;>simp [inj]
theorem tN:Lc w o (bp ((List.range w.n).map (tK w o))):=fun i j hi hj ⟨R,r,h⟩=>(yL hi hj).mpr (lkK_iff.mpr (r.sm i j hi hj h))
theorem wJ (ok:w.Ok) (g:GdN w o N) (l:Lc w o N):Lc w o (bp ((List.range w.n).map (ib w N))):=fun i j hi hj ⟨R,r,h⟩=>(yL hi hj).mpr (by
 have hc:ux w N i=ux w N j:=by
  unfold ux;refine List.filter_congr fun c _=>?_
  rw [Bool.eq_iff_iff,contains_iff_mem,contains_iff_mem,mem_map,mem_map];constructor
  ·rintro ⟨t,ht,rfl⟩
   obtain ⟨u,hu,x⟩:=r.fo i j hi hj h t ht;exact ⟨u,hu,(l t u (ok.stp_lt ht) (ok.stp_lt hu) ⟨R,r,x⟩).symm⟩
  ·rintro ⟨t,ht,rfl⟩
   obtain ⟨u,hu,x⟩:=r.ba i j hi hj h t ht;exact ⟨u,hu,l u t (ok.stp_lt hu) (ok.stp_lt ht) ⟨R,r,x⟩⟩
 unfold ib;rw [hc,l i j hi hj ⟨R,r,h⟩])
theorem g9 (ok:w.Ok):∃N m ks,aM [w.enc,.bool o]=.ok ⟨.leaf,bG N⟩/\CN w o N m/\ks.length=w.n/\N=bp ks/\m=(dn ks).length/\Lc w o N:=by
 have h24:=ok.h24
 have h1:=ok.h1
 let N0:=bp ((List.range w.n).map (tK w o))
 have g0:GdN w o N0:=⟨⟨_,by simp,rfl⟩,fun i j hi hj e=>(yL hi hj).mp e⟩
 let stp (N:List Nat):List Nat:=bp ((List.range w.n).map (ib w N))
 have gs:∀N,GdN w o N->GdN w o (stp N):=fun N g=>⟨⟨_,by simp,rfl⟩,fun i j hi hj e=>g.look i j hi hj (by
  have:=(yL hi hj).mp e
  unfold ib at this;injection this with h1 _
  injection h1 with h1
  injection h1 with h1
  omega)⟩
 have pt:∀N,GdN w o N->aL [w.enc,bG N]=.ok ⟨.lst .leaf,bG (stp N)⟩:=fun N g=>mU ok g.len g.lt
 have c0:aG .leaf 4 (gm (aa (cX bZ (aa (ak (ae 0) (eK (.int 0))) af)) af)) aO (ah 3 bH (aa (ae 0) (aa (ae 4) (aa (ae 1) af)))) (bO 5 [w.enc,.bool o])=.ok ⟨.lst .leaf,.list ((List.range w.n).map (mf w o))⟩ (bO 5 [w.enc,.bool o]):=by
  have lo:=ok.g.lo
  refine u5 rm (List.range w.n) (fun r=>⟨(if o then .tup [.leaf,.leaf] else .tup [.leaf]),mf w o r⟩) (st:=true) (o6 (s:=.leaf) (n:=w.n) (by omega) (by simp [bO,Wd.enc,fy,lo])) (by simp [bO]) rfl (by simp;omega) fun r hr=>?_
  have hr:=List.mem_range.mp hr
  obtain ⟨sh,e,hc⟩:=Hu ok (o:=o) hr
  subst hc;exact ⟨bR (ar (aj rfl) (ar (aj rfl) (ar (aj rfl) ag))) e rfl rfl,by cases o<;>rfl⟩
 have e0:qT [.list ((List.range w.n).map (mf w o))]=.ok ⟨.lst .leaf,bG N0⟩:=oX (by omega) (fun r _=>IJ) (if o then [true,false] else [true]) fun r _=>by cases o<;>rfl
 obtain ⟨b,e,⟨gb,eb,lb⟩,ht⟩:=iI (c:=bo aw (aE iw (ae 3) (ae 2))) (g:=aI (aP false 2 (ae 3)) (aP false 3 (ah 2 aL (aa (ae 0) (aa (ae 2) af))))) (G:=GC w o) (test:=fun b=>!(b.2==b.1)) (Inv:=fun b=>GdN w o b.1/\b.2=stp b.1/\Lc w o b.1) (meas:=fun b=>(uh w.n b.1).length)
  (fun b _=>dt (s:=.leaf) (aB (aj (i:=3) rfl) (aj (i:=2) rfl) wA))
  (fun b ⟨g,e,l⟩ hb=>by
   have ne:b.2≠b.1:=fun z=>by rw [z] at hb;simp at hb
   refine ⟨(b.2,stp b.2),az (fx (aj (i:=3) rfl) rfl (by simp)) (fx (bR (ar (aj (i:=0) rfl) (ar (aj (i:=2) rfl) ag)) (pt b.2 (by rw [e];exact gs _ g)) rfl rfl) rfl (by simp)),⟨(by rw [e];exact gs _ g),rfl,(by rw [e];exact wJ ok g l)⟩,?_⟩
   show (uh w.n b.2).length<(uh w.n b.1).length
   rw [e] at ne ⊢;exact tL g ne) 1000 (N0,stp N0) ⟨g0,rfl,tN⟩ (by
   have a:=length_filter_le (fun p=>nA N0 p.1==nA N0 p.2) (BN w.n)
   have b:=wc h24
   show (uh w.n N0).length<1000
   unfold uh;omega)
 have wh:B1 1000 (bo aw (aE iw (ae 3) (ae 2))) (aI (aP false 2 (ae 3)) (aP false 3 (ah 2 aL (aa (ae 0) (aa (ae 2) af))))) (GC w o (N0,stp N0))=.nx (GC w o b):=by
  unfold B1;rw [e]
 have st:b.2=b.1:=by simpa using ht
 rw [st] at eb;obtain ⟨ks,hk,en⟩:=gb.ks;refine ⟨b.1,(dn ks).length,ks,bj (az (fx (bR (ar c0 ag) e0 rfl rfl) rfl (by simp [bO])) (az (Γ1:=GC w o (N0,stp N0)) (fx (bR (ar (aj (i:=0) rfl) (ar (aj (i:=2) rfl) ag)) (pt N0 g0) rfl rfl) rfl (by simp [bO])) (az wh (aW (aj (i:=2) rfl) rfl)))),⟨gb.len,?_,?_,?_,?_,gb.look,?_⟩,hk,en,rfl,lb⟩
 ·have:=GK (ks:=ks) (i:=0) (by omega)
  omega
 ·have:=um (ks:=ks)
  omega
 ·intro r hr
  rw [en];exact GK (by omega)
 ·intro c hc
  obtain ⟨i,hi,e⟩:=pW hc;exact ⟨i,by omega,by rw [en];exact e⟩
 ·intro i j hi hj e t ht
  have e':nA (stp b.1) i=nA (stp b.1) j:=by rw [<-eb];exact e
  have:=(yL hi hj).mp e'
  unfold ib at this;injection this with _ h2
  injection h2 with h2 _
  injection h2 with h2
  have hc:ux w b.1 i=ux w b.1 j:=fP h2
  have:nA b.1 t∈ux w b.1 j:=by rw [<-hc];exact (oC gb.lt ok).mpr ⟨t,ht,rfl⟩
  obtain ⟨t',h1,h2⟩:=(oC gb.lt ok).mp this;exact ⟨t',h1,h2.symm⟩
theorem tJ {m:Nat} (g:CN w o N m) (l:Lc w o N) {i j:Nat} (hi:i<w.n) (hj:j<w.n):Lk w o i j↔nA N i=nA N j:=
 ⟨l i j hi hj,fun h=>⟨fun a b=>nA N a=nA N b,⟨fun a b ha hb e=>lkK_iff.mp (g.look a b ha hb e),fun a b ha hb e t ht=>g.st a b ha hb e t ht,fun a b ha hb e t ht=>let ⟨u,hu,x⟩:=g.st b a hb ha e.symm t ht;⟨u,hu,x.symm⟩⟩,h⟩⟩
end
end KC
namespace T
open PySem PySem.Spec L2
open PyProof.Rows hiding St
variable {U:St} {c:Nat} {K:Fg} {tl te:TE} {row:List Nat}
noncomputable def gG (P:Program) (w:World) (K:Fg) (ty td:TE):TE:=fun U H Q=>ty U H fun y H1=>td U H1 fun x H2=>∃a b sh kvs ks,x=.ref a/\y=.ref b/\D2 P w K H2 sh a kvs/\K2 K H2 ks b/\ks.map isT=sh/\Q (.bl (cg kvs ks).isSome) H2
section
variable {X:Cx} {o i e value:Expr} {pos pos' tpos:Pos} {td ty tv:TE}
theorem ER (hu:X.A.units+2<cLine) (hi:PE X i ty) (ho:PE X o td):PC X .In i o (gG X.prog X.w X.K ty td):=by
 intro pins s U H Q I h;refine bg (hi pins s U H _ I h) fun iv s1 ⟨y,H1,I1,ry,q1⟩=>bg (ho pins s1 U H1 _ I1 q1) fun u s2 ⟨x,H2,I2,rx,a,b,sh,kvs,ks,ex,ey,⟨xs,e,r,nd,hz,hd⟩,k,hsh,q2⟩=>?_
 subst ex ey;obtain rfl:u=Value.ref a:=rx
 obtain rfl:iv=Value.ref b:=ry
 have dd:=xT I2 e r nd
 refine wpAny_in_heap (gK hu) ⟨uX I2 k,hsh⟩ hd dd ?_
 have q:=(r.val ks).isSome_eq
 rw [Option.isSome_map] at q;rw [<-q];exact ⟨.bl (cg kvs ks).isSome,H2,I2.tok _,rfl,q2⟩
end
theorem oE {v:V}:Ga (aD [c] U) ((aD [c] U).set c (some v)):=by
 refine ⟨by simp,fun i u h=>?_⟩
 have hn:=(Cc h).1
 rw [List.getElem?_set,if_neg (fun z=>hn (by rw [<-z];simp))]
 exact h
theorem sv {H:Hp} {Q:VK} {p:Addr} {f:Nat->Bool} (hl:∀Q':VK,Q' (.ref p) H->tl U H Q') (hp:SqL K H p (row.map fun t:Nat=>V.int (t:Int))) (hn:row.length<=1000)
  (he:∀t∈row,∀H2 (Q':VK),Same H H2->(∀H3,Same H2 H3->Q' (.bl (f t)) H3)->te ((aD [c] U).set c (some (.int (t:Int)))) H2 Q')
  (q:∀L H2,Same H H2->H L=none->H2 L=some (.lst ((row.map f).map V.bl))->Q (.ref L) H2):bJ [c] (bf K tl) (av c) b3 te U H Q:=by
 refine hl _ ⟨p,rfl,⟨_,hp⟩,fun L hL=>?_⟩
 have hb:(1000:Nat)<=sizeLine:=by decide
 refine ⟨fun k m ys H2=>m=row.length-k/\k<=row.length/\ys=((row.take k).map f).map V.bl/\H2 L=some (.lst ys)/\Same H H2,⟨row.length,by simp,Nat.zero_le _,by simp,bL,cb hL⟩,?_⟩
 rintro k m ys H2 ⟨rfl,hk,rfl,hLs,sH⟩
 refine ⟨hLs,?_⟩
 have hq2:=sH.seq hp
 by_cases hlt:k<row.length
 case neg=>
  left
  rw [take_of_length_le (by omega)] at hLs
  exact ⟨⟨_,hq2,by rw [length_map];omega⟩,q L H2 sH hL hLs⟩
 case pos=>
  right
  have e1:(row.map fun t:Nat=>V.int (t:Int))[k]?=some (.int (row[k]:Int)):=by rw [getElem?_map,Ks hlt];rfl
  refine ⟨⟨_,_,hq2,e1⟩,by rw [length_map,length_map,length_take];omega,?_⟩
  rintro v H3 ⟨rfl,hv⟩
  have ev:v=.int (row[k]:Int):=Option.some.inj ((hv _ hq2).symm.trans e1)
  subst ev;refine ⟨oE,tW (he row[k] (getElem_mem hlt) _ _ sH fun H4 s4=>?_)⟩
  have hL4:=s4 _ _ hLs
  refine ⟨hL4,row.length-(k+1),by omega,rfl,hlt,?_,bL,fun c o hc=>?_⟩
  ·rw [take_succ,Ks hlt,map_append,map_append];rfl
  ·rw [bw (fun z=>by subst z;rw [hL] at hc;cases hc)]
   exact s4 c o (sH c o hc)
theorem nV {H:Hp} {Q:VK} {p:Addr} {f:Nat->Bool} {any:Bool} (hl:∀Q':VK,Q' (.ref p) H->tl U H Q') (hp:SqL K H p (row.map fun t:Nat=>V.int (t:Int))) (hn:row.length<=1000)
  (he:∀t∈row,∀H2 (Q':VK),Same H H2->(∀H3,Same H2 H3->Q' (.bl (f t)) H3)->te ((aD [c] U).set c (some (.int (t:Int)))) H2 Q')
  (q:∀H2,Same H H2->Q (.bl (if any then row.any f else row.all f)) H2):jV (eo K any) (ao (bJ [c] (bf K tl) (av c) b3 te) bb) U H Q:=by
 show bJ [c] (bf K tl) (av c) b3 te U H (fun v H1=>eo K any [v] H1 Q)
 refine sv hl hp hn he fun L H2 s hL hL2=>⟨L,row.map f,rfl,.inl (.inl hL2),?_⟩
 have:=q H2 s
 cases any with
 | true=>rw [if_pos rfl] at this ⊢;rw [List.any_map];exact this
 | false=>rw [if_neg Bool.false_ne_true] at this ⊢;rw [all_map];exact this
end T
namespace KC
open PySem PySem.Spec L2 T PySem.SeqAt
open PyProof.Rows hiding St
variable {o:Bool} {U:St} {c:Nat} {vs:List V} {Qn:St->Hp->Prop} {K:Fg} {L:List (Nat×Nat)}
theorem G7:∀a b:List Str,PyData.eqvAll (a.map .str) (b.map .str)=(a==b)
 | [],b=>by cases b<;>rw [List.map_nil]<;>simp [PyData.eqvAll]
 | x::a,[]=>by simp [PyData.eqvAll]
 | x::a,y::b=>by rw [map_cons,map_cons,PyData.eqvAll,G7 a b];simp [PyData.eqv]
theorem AR {w:Wd} {i j:Nat}:PyData.eqv (mf w o i) (mf w o j)=nO w o i j:=by
 unfold mf nO
 cases o with
 | false=>simp [PyData.eqv,PyData.eqvAll,G7]
 | true=>simp [PyData.eqv,PyData.eqvAll,G7]
theorem yd {w:Wd} (ok:w.Ok) {r:Nat}:shaped (mf w o r)=true:=by
 have mc:∀c∈w.mks r,PyData.strOk c=true:=fun c hc=>by
  unfold Wd.mks at hc;rw [Kt] at hc
  cases e:w.m[r]? with
  | none=>rw [e] at hc;simp at hc
  | some z=>rw [e] at hc;exact ok.mc z (mem_of_getElem? e) c hc
 have m:=D6 (xs:=(w.mks r).map .str) (fun d hd=>by
  obtain ⟨x,hx,rfl⟩:=List.mem_map.mp hd;exact ⟨x,rfl,mc x hx⟩)
 have key:PyData.canLay0 (mf w o r)=true/\PyData.depth (mf w o r)<=3:=by
  unfold mf
  cases o with
  | false=>simp [PyData.canLay0,PyData.canLayAll0,PyData.depth,PyData.depthAll,m.1,m.2]
  | true=>simp [PyData.canLay0,PyData.canLayAll0,PyData.depth,PyData.depthAll,m.1,m.2]
 unfold shaped;rw [key.1,Bool.true_and];exact decide_eq_true (by have:=key.2;omega)
theorem DD {w:Wd} (ok:w.Ok) {i j:Nat}:iw (mf w o i) (mf w o j)=some (.bool (!nO w o i j)):=by
 unfold iw;rw [yd ok,yd ok,AR];rfl
noncomputable abbrev cL:List Str:=["world", "pair", "known", "owned", "firsts", "seconds", "is_met", "first", "second"]
noncomputable abbrev hX:List Str:=["look_of", "all", "any"]
noncomputable abbrev tH (k:Int):F1:=ah 3 bH (aa (ae 0) (aa (ak (ae 1) (eK (.int k))) (aa (ae 3) af)))
noncomputable abbrev zm (k:Int):F1:=ak (ak (ae 0) (eK (.int 2))) (ak (ae 1) (eK (.int k)))
noncomputable def Cy (P:Program) (w:World) (K:Fg):TE:=gG P w K (jq (ao (ai 7) (ao (ai 8) bb))) (ai 2)
noncomputable def rA (P:Program) (w:World) (K:Fg) (c l c2 l2:Nat):TE:=jV (eo K false) (ao (bJ [c] (bf K (ai l)) (av c) b3 (jV (eo K true) (ao (bJ [c2] (bf K (ai l2)) (av c2) b3 (Cy P w K)) bb))) bb)
noncomputable def FH (P:Program) (w:World) (K:Fg):L2.TS:=aS (eN (tT K W0 (bo aw (aE iw (tH 0) (tH 1)))) (cE (tC (.bl false))) cN) (aS (b5 (tE K W0 (zm 0)) (av 4)) (aS (b5 (tE K W0 (zm 1)) (av 5)) (aS (b5 (rA P w K 7 4 8 5) (av 6)) (cE (rC (ai 6) (rA P w K 8 5 7 4))))))
noncomputable def kF (ps:List (Nat×Nat)) (i j:Nat):Bool:=decide ((i,j)∈ps)
noncomputable def pk (P:Program) (w:World) (K:Fg):Sp:=fun vs H Q _=>∃(wd:Wd) (O:List Addr) (v0 v1:V) (d:Addr) (o:Bool) (ps:List (Nat×Nat)) (g:Nat->Nat->Bool) (i j:Nat),vs=[v0,v1,.ref d,.bl o]/\wd.Ok/\O.Nodup/\(∀a∈O,H a≠none)/\Rep K (aC H O) v0 wd.enc/\Rep K (aC H O) v1 (.tuple [rm i,rm j])/\DG P w K H d ps g/\i<wd.n/\j<wd.n/\∀H',Same H H'->Q (.bl (nO wd o i j&&yk wd (kF ps) i j)) H'
section
variable {P:Program} {w:World} {K:Fg} {H:Hp} {O:List Addr} {v0 v1:V} {wd:Wd} {d:Addr} {ps:List (Nat×Nat)} {g:Nat->Nat->Bool} {o:Bool} {i j:Nat}
noncomputable abbrev GI (wd:Wd) (o:Bool) (i j:Nat):Ev:=[KD wd.enc,KD (.tuple [rm i,rm j]),none,KD (.bool o),none,none,none,none,none]
theorem oD (ok:wd.Ok) {k:Nat} (hk:k<2) (hi:i<wd.n) (hj:j<wd.n):∃sh,tH (k:Int) (GI wd o i j)=.ok ⟨sh,mf wd o (if k=0 then i else j)⟩ (GI wd o i j):=by
 match k,hk with
 | 0,_=>
  obtain ⟨sh,e,hs⟩:=Hu ok (o:=o) hi
  refine ⟨sh,?_⟩
  cases o<;>(subst hs;exact bR (ar (aj (i:=0) rfl) (ar (dq (j:=0) (aj (i:=1) rfl) aK rfl rfl rfl) (ar (aj (i:=3) rfl) ag))) e rfl rfl)
 | 1,_=>
  obtain ⟨sh,e,hs⟩:=Hu ok (o:=o) hj
  refine ⟨sh,?_⟩
  cases o<;>(subst hs;exact bR (ar (aj (i:=0) rfl) (ar (dq (j:=1) (aj (i:=1) rfl) aK rfl rfl rfl) (ar (aj (i:=3) rfl) ag))) e rfl rfl)
theorem rU (ok:wd.Ok) {k:Nat} (hk:k<2) (hi:i<wd.n) (hj:j<wd.n):zm (k:Int) (GI wd o i j)=.ok ⟨.leaf,.list (((wd.stp (if k=0 then i else j)).map fun t:Nat=>(t:Int)).map .int)⟩ (GI wd o i j):=by
 have e:∀l:List Nat,PyData.list ((l.map fun t:Nat=>(t:Int)).map .int)=bG l:=fun l=>by
  show PyData.list _=PyData.list _
  rw [map_map];rfl
 rw [e];match k,hk with
 | 0,_=>exact xR ok (i:=0) (s:=.leaf) rfl (dq (j:=0) (aj (i:=1) rfl) aK rfl rfl rfl) hi
 | 1,_=>exact xR ok (i:=0) (s:=.leaf) rfl (dq (j:=1) (aj (i:=1) rfl) aK rfl rfl rfl) hj
theorem B8 (ok:wd.Ok) {r:Nat}:(wd.stp r).length<=1000:=by
 unfold Wd.stp;rw [Kt]
 cases e:wd.s[r]? with
 | none=>simp
 | some z=>have:=(ok.st z (mem_of_getElem? e)).2.1;show z.length<=1000;omega
theorem yg {a b:Nat} {Q:VK} (hD:DG P w K H d ps g) (h2:U[2]?=some (some (.ref d))) (h7:U[7]?=some (some (.int (a:Int)))) (h8:U[8]?=some (some (.int (b:Int)))) (q:∀H',Same H H'->Q (.bl (kF ps a b)) H'):Cy P w K U H Q:=by
 refine ⟨_,h7,_,h8,vl,fun x hx=>⟨.ref d,h2,d,x,[false,false],_,ky a b,rfl,rfl,hD.grow (cb hx),BW,rfl,?_⟩⟩
 have:=q _ (cb (o:=.tup [.int (a:Int),.int (b:Int)]) hx)
 unfold kF at this;by_cases hm:(a,b)∈ps
 ·rw [decide_eq_true hm] at this
  rw [Ez hm];exact this
 ·rw [decide_eq_false hm] at this
  rw [B3 hm];exact this
theorem nT {l c2 l2:Nat} {p p2:Addr} {A B:List Nat} {f:Nat->Nat->Bool} {Q:VK} (hD:DG P w K H d ps g) (hp:SqL K H p (A.map fun t:Nat=>V.int (t:Int))) (hp2:SqL K H p2 (B.map fun t:Nat=>V.int (t:Int))) (hA:A.length<=1000) (hB:B.length<=1000) (hl:U[l]?=some (some (.ref p)))
  (hl2:∀t,((aD [c] U).set c (some (.int (t:Int))))[l2]?=some (some (.ref p2)))
  (hk:∀t∈A,∀r∈B,∀H2 (Q':VK),Same H H2->(∀H3,Same H2 H3->Q' (.bl (f t r)) H3)->Cy P w K ((aD [c2] ((aD [c] U).set c (some (.int (t:Int))))).set c2 (some (.int (r:Int)))) H2 Q')
  (q:∀H',Same H H'->Q (.bl (A.all fun t=>B.any fun r=>f t r)) H'):rA P w K c l c2 l2 U H Q:=by
 refine nV (any:=false) (row:=A) (f:=fun t=>B.any fun r=>f t r) (fun Q' h=>⟨_,hl,h⟩) hp hA (fun t ht H2 Q' s2 k=>?_) fun H2 s2=>by
  rw [if_neg Bool.false_ne_true];exact q H2 s2
 refine nV (any:=true) (row:=B) (f:=fun r=>f t r) (fun Q' h=>⟨_,hl2 t,h⟩) (s2.seq hp2) hB (fun r hr H3 Q'' s3 k3=>hk t ht r hr H3 Q'' (s2.trans s3) k3) fun H3 s3=>by
  rw [if_pos rfl];exact k H3 s3
theorem CY {Q:VK} {E:XK} (h:pk P w K vs H Q E):FH P w K { nx:=Qn,rt:=Q } (L2.start cL vs) H:=by
 obtain ⟨wd,O,v0,v1,d,o,ps,g,i,j,rfl,ok,nd,inH,r0,r1,hD,hi,hj,q⟩:=h;show FH P w K { nx:=Qn,rt:=Q } [some v0,some v1,some (.ref d),some (.bl o),none,none,none,none,none] H
 have inS:∀{H'},Same H H'->∀a∈O,H' a≠none:=fun {H'} s a ha=>by
  cases e:H a with
  | none=>exact absurd e (inH a ha)
  | some u=>rw [s a u e];exact Option.some_ne_none _
 have mono:∀{H'},Same H H'->Same (aC H O) (aC H' O):=fun s=>dW s fun a ha=>.inl ha
 have EE:∀(H':Hp) (x4 x5 x6:Option V),Same H H'->EnvOk K H' O (List.replicate (GI wd o i j).length []) H' [some v0,some v1,some (.ref d),some (.bl o),x4,x5,x6,none,none] (GI wd o i j):=fun H' x4 x5 x6 s=>by
  refine jE nd (inS s) rfl fun n x hx=>?_
  match n,hx with
  | 0,hx=>cases hx;exact ⟨rfl,_,rfl,r0.mono (mono s)⟩
  | 1,hx=>cases hx;exact ⟨rfl,_,rfl,r1.mono (mono s)⟩
  | 2,hx=>cases hx
  | 3,hx=>cases hx;exact ⟨rfl,_,rfl,.bl o⟩
  | 4,hx=>cases hx
  | 5,hx=>cases hx
  | 6,hx=>cases hx
  | 7,hx=>cases hx
  | 8,hx=>cases hx
  | n+9,hx=>cases hx
 obtain ⟨sh0,e0⟩:=oD (o:=o) (k:=0) ok (by omega) hi hj
 obtain ⟨sh1,e1⟩:=oD (o:=o) (k:=1) ok (by omega) hi hj
 refine AQ (EE H none none none (Same.refl _)) (dt (s:=.leaf) (aB e0 e1 (DD ok))) fun H1 s1=>?_
 show if (!nO wd o i j)=true then _ else _
 cases es:nO wd o i j with
 | false=>
  have:=q H1 s1
  rw [es] at this;exact ck this
 | true=>
  rw [es] at q;refine cn ?_
  refine IT (EE H1 none none none s1) (rU (k:=0) ok (by omega) hi hj) fun p H2 s2 hp=>?_
  refine IT (EE H2 (some (.ref p)) none none (s1.trans s2)) (rU (k:=1) ok (by omega) hi hj) fun p2 H3 s3 hp2=>?_
  have hp:SqL K H2 p ((wd.stp i).map fun t:Nat=>V.int (t:Int)):=by
   have:=hp
   rw [map_map] at this;exact this
  have hp2:SqL K H3 p2 ((wd.stp j).map fun t:Nat=>V.int (t:Int)):=by
   have:=hp2
   rw [map_map] at this;exact this
  have s03:Same H H3:=(s1.trans s2).trans s3
  refine nT (f:=kF ps) (hD.grow s03) (s3.seq hp) hp2 (B8 ok) (B8 ok) rfl (fun t=>by simp [aD]) (fun t _ r _ H4 Q' s4 k=>yg (hD.grow (s03.trans s4)) (by simp [aD]) (by simp [aD]) (by simp [aD]) k) fun H4 s4=>?_
  refine ⟨_,rfl,_,rfl,?_⟩
  cases ea:(wd.stp i).all fun t=>(wd.stp j).any fun r=>kF ps t r with
  | false=>
   have:=q H4 (s03.trans s4)
   unfold yk at this;rw [ea] at this;exact cn this
  | true=>
   refine ck (nT (f:=fun r t=>kF ps t r) (hD.grow (s03.trans s4)) (s4.seq hp2) ((s3.trans s4).seq hp) (B8 ok) (B8 ok) rfl (fun t=>by simp [aD]) (fun r _ t _ H5 Q' s5 k=>yg (hD.grow ((s03.trans s4).trans s5)) (by simp [aD]) (by simp [aD]) (by simp [aD]) k) fun H5 s5=>?_)
   have:=q H5 ((s03.trans s4).trans s5)
   unfold yk at this;rw [ea] at this;exact this
end
noncomputable abbrev fF:List Str:=["world", "pairs", "owned", "known", "pair"]
noncomputable abbrev nj:List Str:=["check_world", "check_room", "is_pair_right", "all"]
noncomputable def bY (p:Nat×Nat):D:=.tuple [rm p.1,rm p.2]
noncomputable abbrev JO (k:Int):F1:=ah 2 aA (aa (ae 0) (aa (ak (ae 4) (eK (.int k))) af))
noncomputable def FM (P:Program) (w:World) (K:Fg):L2.TS:=aS (df (tE K W0 (ah 1 ay (aa (ae 0) af)))) (aS (b5 (B2 P w K [false,false]) (av 3)) (aS (cT (bf K (ai 1)) (av 4) (aS (df (tE K W0 (JO 0))) (aS (df (tE K W0 (JO 1))) (rN P w K (ai 3) (ai 4) (tC (.bl true))))))
 (cE (jV (eo K false) (ao (bJ [4] (bf K (ai 1)) (av 4) b3 (cF (pk P w K) [] L2.E0 (ao (ai 0) (ao (ai 4) (ao (ai 3) (ao (ai 2) bb)))))) bb)))))
theorem iP {α:Type} {H:Hp} {Q:VK} {tl te:TE} {p:Addr} {ws:List V} {row:List α} {f:α->Bool} (hl:∀Q':VK,Q' (.ref p) H->tl U H Q') (hp:SqL K H p ws) (hw:ws.length=row.length) (hn:row.length<=1000)
  (he:∀(k:Nat) v t,ws[k]?=some v->row[k]?=some t->∀H2 (Q':VK),Same H H2->(∀H3,Same H2 H3->Q' (.bl (f t)) H3)->te ((aD [c] U).set c (some v)) H2 Q')
  (q:∀L H2,Same H H2->H L=none->H2 L=some (.lst ((row.map f).map V.bl))->Q (.ref L) H2):bJ [c] (bf K tl) (av c) b3 te U H Q:=by
 refine hl _ ⟨p,rfl,⟨_,hp⟩,fun L hL=>?_⟩
 have hb:(1000:Nat)<=sizeLine:=by decide
 refine ⟨fun k m ys H2=>m=row.length-k/\k<=row.length/\ys=((row.take k).map f).map V.bl/\H2 L=some (.lst ys)/\Same H H2,⟨row.length,by simp,Nat.zero_le _,by simp,bL,cb hL⟩,?_⟩
 rintro k m ys H2 ⟨rfl,hk,rfl,hLs,sH⟩
 refine ⟨hLs,?_⟩
 have hq2:=sH.seq hp
 by_cases hlt:k<row.length
 case neg=>
  left
  rw [take_of_length_le (by omega)] at hLs
  exact ⟨⟨_,hq2,by omega⟩,q L H2 sH hL hLs⟩
 case pos=>
  right
  have hlw:k<ws.length:=by omega
  have e1:ws[k]?=some ws[k]:=Ks hlw
  refine ⟨⟨_,_,hq2,e1⟩,by rw [length_map,length_map,length_take];omega,?_⟩
  rintro v H3 ⟨rfl,hv⟩
  have ev:v=ws[k]:=Option.some.inj ((hv _ hq2).symm.trans e1)
  subst ev;refine ⟨oE,tW (he k ws[k] row[k] e1 (Ks hlt) _ _ sH fun H4 s4=>?_)⟩
  have hL4:=s4 _ _ hLs
  refine ⟨hL4,row.length-(k+1),by omega,rfl,hlt,?_,bL,fun c o hc=>?_⟩
  ·rw [take_succ,Ks hlt,map_append,map_append];rfl
  ·rw [bw (fun z=>by subst z;rw [hL] at hc;cases hc)]
   exact s4 c o (sH c o hc)
theorem ya {i j:Nat}:yb (fun _ _=>true) i j true=fun _ _=>true:=by
 funext a b
 unfold yb;split<;>rfl
theorem EB {H:Hp} {v:V} {p:Nat×Nat} (r:Rep K H v (bY p)):∃b,v=.ref b/\SqT K H b [.int (p.1:Int),.int (p.2:Int)]:=by
 unfold bY at r
 cases r with
 | @tup b vs _ hq hl hr=>
  match vs,hl with
  | [u0,u1],_=>
   have r0:=hr 0 u0 _ rfl rfl
   have r1:=hr 1 u1 _ rfl rfl
   cases r0
   cases r1;exact ⟨b,rfl,hq⟩
noncomputable def ve (w:Wd) (o:Bool) (L:List (Nat×Nat)):Bool:=L.all fun p=>nO w o p.1 p.2&&yk w (fun a b=>decide ((a,b)∈L)) p.1 p.2
section
variable {P:Program} {w:World} {K:Fg} {H:Hp} {O:List Addr} {wd:Wd} {o:Bool} {L:List (Nat×Nat)}
noncomputable abbrev JW (wd:Wd) (o:Bool) (L:List (Nat×Nat)) (x4:Option PV):Ev:=[KD wd.enc,KD (.list (L.map bY)),KD (.bool o),none,x4]
theorem C4 {Q:VK} (ok:wd.Ok) (hL:∀p∈L,p.1<wd.n/\p.2<wd.n) (hLn:L.length<=900) (nd:O.Nodup) (inH:∀a∈O,H a≠none) (rs:Reps K (aC H O) vs [wd.enc,.list (L.map bY),.bool o])
  (q:∀H',Same H H'->Q (.bl (ve wd o L)) H'):FM P w K { nx:=Qn,rt:=Q } (L2.start fF vs) H:=by
 have hvl:vs.length=3:=rs.1
 match vs,hvl,rs with
 | [v0,v1,v2],_,rs=>
 have r0:=rs.2 0 v0 _ rfl rfl
 have r1:=rs.2 1 v1 _ rfl rfl
 have r2:=rs.2 2 v2 _ rfl rfl
 cases r2;show FM P w K { nx:=Qn,rt:=Q } [some v0,some v1,some (.bl o),none,none] H
 have inS:∀{H'},Same H H'->∀a∈O,H' a≠none:=fun {H'} s a ha=>by
  cases e:H a with
  | none=>exact absurd e (inH a ha)
  | some u=>rw [s a u e];exact Option.some_ne_none _
 have mono:∀{H'},Same H H'->Same (aC H O) (aC H' O):=fun s=>dW s fun a ha=>.inl ha
 have EE:∀(H':Hp) (x3:Option V) (x4:Option (V×D)),Same H H'->(∀u,x4=some u->Rep K (aC H' O) u.1 u.2)->EnvOk K H' O (List.replicate (JW wd o L (x4.map fun u=>(⟨.leaf,u.2⟩:PV))).length []) H' [some v0,some v1,some (.bl o),x3,x4.map (·.1)] (JW wd o L (x4.map fun u=>(⟨.leaf,u.2⟩:PV))):=fun H' x3 x4 s h4=>by
  refine jE nd (inS s) rfl fun n x hx=>?_
  match n,hx with
  | 0,hx=>cases hx;exact ⟨rfl,_,rfl,r0.mono (mono s)⟩
  | 1,hx=>cases hx;exact ⟨rfl,_,rfl,r1.mono (mono s)⟩
  | 2,hx=>cases hx;exact ⟨rfl,_,rfl,.bl o⟩
  | 3,hx=>cases hx
  | 4,hx=>
   cases x4 with
   | none=>cases hx
   | some u=>cases hx;exact ⟨rfl,_,rfl,h4 u rfl⟩
  | n+5,hx=>cases hx
 have r1':=r1
 cases r1' with
 | @lst pl ws _ hq hl hr=>
 rw [length_map] at hl;have sqL:∀{H'},Same H H'->SqL K H' pl ws:=fun s=>s.seq (hid_le.seq hq)
 have at_:∀(k:Nat) v t,ws[k]?=some v->L[k]?=some t->Rep K (aC H O) v (bY t):=fun k v t e1 e2=>hr k v (bY t) e1 (by rw [getElem?_map,e2];rfl)
 refine oU inH (EE H none none (Same.refl _) (fun _ z=>nomatch z)) (bR (ar (aj (i:=0) rfl) ag) ok.check rfl rfl) rfl fun _ H1 s1 _=>?_
 intro d ob hd hD0;have sd:Same H1 (upd H1 d ob):=cb hd
 have hd0:H d=none:=s1.free hd
 refine ⟨_,rfl,pl,rfl,⟨_,sqL (s1.trans sd)⟩,?_⟩
 refine yT (xs:=ws) (fun k U' H'=>(∃x4,U'=[some v0,some (.ref pl),some (.bl o),some (.ref d),x4])/\Same H H'/\∃ps,DG P w K H' d ps (fun _ _=>true)/\(∀p,p∈ps↔p∈L.take k)/\ps.length<=k) ⟨⟨_,rfl⟩,s1.trans sd,[],hD0,by simp,KA _⟩ (fun k U' H' _ h=>sqL h.2.1) (fun k v U' H' e h=>?_) fun U' H' h=>?_
 ·obtain ⟨⟨x4,rfl⟩,s2,ps,hD,hm,hps⟩:=h
  have hkw:=(Kw e).1
  have hk:k<L.length:=by omega
  have et:L[k]?=some L[k]:=Ks hk
  have rp:=at_ k v _ e et
  have hmem:L[k]∈L:=getElem_mem hk
  have htk:L.take (k+1)=L.take k++[L[k]]:=by rw [take_succ,et];rfl
  obtain ⟨hi,hj⟩:=hL _ hmem;generalize L[k]=t at rp hmem htk hi hj et
  have E2:=EE H' (some (.ref d)) (some (v,bY t)) s2 (fun u hu=>by cases hu;exact rp.mono (mono s2))
  refine oU (inS s2) E2 (bR (ar (aj (i:=0) rfl) (ar (dq (j:=0) (ds:=[rm t.1,rm t.2]) (aj (i:=4) rfl) aK rfl rfl rfl) ag)) (BL ok hi) rfl rfl) rfl fun _ H3 s3 _=>?_
  have E3:=EE H3 (some (.ref d)) (some (v,bY t)) (s2.trans s3) (fun u hu=>by cases hu;exact rp.mono (mono (s2.trans s3)))
  refine oU (inS (s2.trans s3)) E3 (bR (ar (aj (i:=0) rfl) (ar (dq (j:=1) (ds:=[rm t.1,rm t.2]) (aj (i:=4) rfl) aK rfl rfl rfl) ag)) (BL ok hj) rfl rfl) rfl fun _ H4 s4 _=>?_
  obtain ⟨b,rfl,hb⟩:=EB rp;have s04:Same H H4:=(s2.trans s3).trans s4
  refine ⟨.ref d,rfl,.ref b,rfl,d,b,[false,false],_,ky t.1 t.2,rfl,rfl,hD.grow (s3.trans s4),⟨_,aV (hid_le.trans s04) hb,.cons rfl (.cons rfl .nil)⟩,rfl,by rw [GF];omega,fun ob' hD'=>⟨⟨_,rfl⟩,SD.same s04 hd0 SD.upd,_,(by rw [oG,ya] at hD';exact hD'),fun p=>?_,?_⟩⟩
  ·rw [htk,mem_append,mem_singleton,<-hm p]
   split
   ·rename_i hin
    exact ⟨.inl,fun z=>z.elim id fun y=>by rw [y];exact hin⟩
   ·rw [mem_append,mem_singleton]
  ·split
   ·omega
   ·rw [length_append,length_singleton];omega
 ·obtain ⟨⟨x4,rfl⟩,s2,ps,hD,hm,hps⟩:=h
  rw [hl,take_of_length_le (KA _)] at hm;show bJ [4] (bf K (ai 1)) (av 4) b3 (cF (pk P w K) [] L2.E0 (ao (ai 0) (ao (ai 4) (ao (ai 3) (ao (ai 2) bb))))) _ H' (fun v H1=>eo K false [v] H1 Q)
  refine iP (row:=L) (ws:=ws) (f:=fun p=>nO wd o p.1 p.2&&yk wd (fun a b=>decide ((a,b)∈L)) p.1 p.2) (fun Q' h=>⟨_,rfl,h⟩) (sqL s2) hl (by omega) (fun k v t e1 e2 H3 Q' s3 kk=>?_) fun Z H3 s3 hZ hZ3=>⟨Z,_,rfl,.inl (.inl hZ3),?_⟩
  ·obtain ⟨hi,hj⟩:=hL t (mem_of_getElem? e2)
   have s23:=s2.trans s3
   refine ⟨v0,by simp [aD],v,by simp [aD],.ref d,by simp [aD],.bl o,by simp [aD],wd,O,v0,v,d,o,ps,fun _ _=>true,t.1,t.2,rfl,ok,nd,inS s23,r0.mono (mono s23),(at_ k v t e1 e2).mono (mono s23),hD.grow s3,hi,hj,fun H4 s4=>?_⟩
   have:=kk H4 s4
   have ei:kF ps=fun a b=>decide ((a,b)∈L):=by
    funext a b
    unfold kF;rw [Bool.eq_iff_iff,decide_eq_true_eq,decide_eq_true_eq];exact hm (a,b)
   rw [ei];exact this
  ·rw [if_neg Bool.false_ne_true,all_map]
   exact q H3 (s2.trans s3)
end
theorem wa {M:List (Nat×Nat)} (h:PyData.list (L.map bY)=.list (M.map bY)):L=M:=(map_inj_right (f:=bY) fun a b e=>by
 have e:=PyData.tuple.inj e
 injection e with e1 e
 injection e with e2 _
 exact Prod.ext (Int.ofNat_inj.mp (PyData.int.inj e1)) (Int.ofNat_inj.mp (PyData.int.inj e2))).mp (PyData.list.inj h)
noncomputable def J4 (ds:List KB):Prop:=∃x:Wd×List (Nat×Nat)×Bool,ds=[x.1.enc,.list (x.2.1.map bY),.bool x.2.2]/\x.1.Ok/\(∀p∈x.2.1,p.1<x.1.n/\p.2<x.1.n)/\x.2.1.length<=900
open Classical in
noncomputable def aJ (ds:List KB):b9:=if h:J4 ds then .ok ⟨.leaf,.bool (ve h.choose.1 h.choose.2.2 h.choose.2.1)⟩ else .no
theorem uu {w:Wd} (ok:w.Ok) (hL:∀p∈L,p.1<w.n/\p.2<w.n) (hn:L.length<=900):aJ [w.enc,.list (L.map bY),.bool o]=.ok ⟨.leaf,.bool (ve w o L)⟩:=by
 have H:J4 [w.enc,.list (L.map bY),.bool o]:=⟨(w,L,o),rfl,ok,hL,hn⟩
 unfold aJ;rw [dif_pos H];obtain ⟨e,k,_,_⟩:=H.choose_spec;injection e with e1 e
 injection e with e2 e
 injection e with e3 _
 rw [<-xf ok k e1,<-wa e2,<-PyData.bool.inj e3]
theorem wF {ds:List KB} {p:PV} (h:aJ ds=.ok p):∃w L o,ds=[w.enc,.list (L.map bY),.bool o]/\w.Ok/\(∀q∈L,q.1<w.n/\q.2<w.n)/\L.length<=900/\p=⟨.leaf,.bool (ve w o L)⟩:=by
 unfold aJ at h;split at h
 ·rename_i H
  cases h;obtain ⟨e,k,k2,k3⟩:=H.choose_spec;exact ⟨_,_,_,e,k,k2,k3,rfl⟩
 ·cases h
noncomputable def uU (P:Program) (w:World) (K:Fg) (mg:Str->Option Value) (base:Heap) (j:Nat):Prop:=
 ∃(f:Addr) (fd:FuncData) (ps:List Str),bT P w K mg base eG j f fd ps (pk P w K)/\mg "is_pair_right"=some (.ref f)/\PySem.W.keepIn K (.ref f)=true/\Binds K fd ps []
noncomputable abbrev Ji (X:Cx):Prop:=∃(k:Nat) (f:Addr) (fd:FuncData) (ps:List Str),bT X.prog X.w X.K X.mg X.base eG k f fd ps (pk X.prog X.w X.K)/\Room k X.A/\X.mg "is_pair_right"=some (.ref f)/\PySem.W.keepIn X.K (.ref f)=true/\Binds X.K fd ps []
section
variable {P:Program} {w:World} {K:Fg} {mg:Str->Option Value} {base:Heap} {f:Addr} {fd:FuncData} {st:Stmt} {j j1 j2 k:Nat} {vs cs ls lo gs:List Nat}
theorem Dp (F:Fun K "is_pair_right" "is_pair_right" st f fd) (hm:mg "is_pair_right"=some (.ref f)) (b:Binds K fd ["world", "pair", "known", "owned"] []) (sc:aR cL ["world", "pair", "known", "owned"] (cf st)) (cp:d6 cL hX vs cs ls lo gs (cf st)=true) (nm:iW cL hX=true) (n_all:mg "all"=none) (n_any:mg "any"=none)
  (c:DefOk P w K mg base j "look_of" 3 bH) (hj:decide (j<=k)=true)
  (bd:∀X:Cx,Cp X cL hX vs cs ls lo gs->Rm X->PassesOwn (model X.prog X.w) X.A X.env X.xe->X.mg "all"=none->X.mg "any"=none->gz X "look_of" 3 bH->PSs X (fG st) (FH X.prog X.w X.K)):uU P w K mg base (k+1):=by
 refine ⟨f,fd,["world", "pair", "known", "owned"],F.ok sc (fun vs H Q E h=>?_) (fun cdv A outer s H vs Q E hr h=>?_),hm,F.kp,b⟩
 ·obtain ⟨_,_,_,_,_,_,_,_,_,_,rfl,_⟩:=h
  rfl
 ·exact ⟨_,bd _ (Cp.fn cp nm) hr.units PassesOwn.never n_all n_any (c.cal hr hj),CY h⟩
theorem Dq (F:Fun K "are_alike_by" "are_alike_by" st f fd) (hm:mg "are_alike_by"=some (.ref f)) (b:Binds K fd ["world", "pairs", "owned"] []) (sc:aR fF ["world", "pairs", "owned"] (cf st)) (cp:d6 fF nj vs cs ls lo gs (cf st)=true) (nm:iW fF nj=true) (n_all:mg "all"=none)
  (c1:DefOk P w K mg base j1 "check_world" 1 ay) (c2:DefOk P w K mg base j2 "check_room" 2 aA) (c:uU P w K mg base j) (h1:decide (j1<=k)=true) (h2:decide (j2<=k)=true) (hj:decide (j<=k)=true)
  (bd:∀X:Cx,Cp X fF nj vs cs ls lo gs->Rm X->PassesOwn (model X.prog X.w) X.A X.env X.xe->X.mg "all"=none->gz X "check_world" 1 ay->gz X "check_room" 2 aA->Ji X->PSs X (fG st) (FM X.prog X.w X.K)):DefOk P w K mg base (k+1) "are_alike_by" 3 aJ:=by
 refine ⟨f,fd,["world", "pairs", "owned"],F.ok sc (fun vs H Q E h=>h.1) (fun cdv A outer s H vs Q E hr h=>?_),hm,F.kp,b⟩
 obtain ⟨hl,O,ds,nd,inH,rs,w'⟩:=h
 cases e:aJ ds with
 | er c=>rw [e] at w';exact w'.elim
 | no=>rw [e] at w';exact w'.elim
 | ok p=>
  rw [e] at w';obtain ⟨wd,L,o,rfl,ok,hL,hn,rfl⟩:=wF e;obtain ⟨f',fd',ps',F',a',b',c'⟩:=c;exact ⟨_,bd _ (Cp.fn cp nm) hr.units PassesOwn.never n_all (c1.cal hr h1) (c2.cal hr h2) ⟨j,f',fd',ps',F',hr.mono (of_decide_eq_true hj),a',b',c'⟩,C4 ok hL hn nd inH rs fun H' s=>w' _ H' [] ⟨s,(fun _ z=>nomatch z),(fun _ z=>nomatch z),nodup_nil,.leaf (.bl _),rfl⟩⟩
end
end KC
namespace KC
open PySem PySem.Spec L2 T
open PyProof.Rows hiding St
variable {X:Cx} {vs cs ls lo gs cs':List Nat} {p1 p2 p3 p4 p5 p0 p6 p7 pos pos2:Pos} {k1:Nat} {scope:Scope} {x y:Str} {K:Fg} {mg:Str->Option Value} {base:Heap} {fd:FuncData}
noncomputable def bq:Stmt:=rL 25
noncomputable def bD:Stmt:=rL 26
theorem CI:aR cL ["world", "pair", "known", "owned"] (cf bq):=⟨rfl,rfl,rfl,by decide +kernel,rfl,by decide +kernel,by decide +kernel⟩
theorem DZ:d6 cL hX [0,1,2,3,4,5,6] [2,4,5] [0,1,2,3,4,5,6] [0,1,3,6] [0,1] (cf bq)=true:=by kernel_rfl
theorem Dw:iW cL hX=true:=by kernel_rfl
theorem CO:aR fF ["world", "pairs", "owned"] (cf bD):=⟨rfl,rfl,rfl,by decide +kernel,rfl,by decide +kernel,by decide +kernel⟩
theorem D5:d6 fF nj [0,1,2,3,4] [0,2,3] [0,1,2,3,4] [1,4] [0,1,3] (cf bD)=true:=by kernel_rfl
theorem DB:iW fF nj=true:=by kernel_rfl
theorem ox {N gl:List Str} (S:Cp X N gl vs cs ls lo gs) (i:Nat) (x:Str) (pos:Pos) (e:N[i]?=some x) (hi:vs.contains i=true):PE X (.Name x pos) (ai i):=by
 have m:=S.nm x (mem_of_getElem? e)
 exact xI (by rw [S.hN];exact e) (S.vis i x e hi) m.1 m.2
noncomputable abbrev J0 (X:Cx):Prop:=Cp X cL hX [0,1,2,3,4,5,6] [2,4,5] [0,1,2,3,4,5,6] [0,1,3,6] [0,1]
theorem DI (S:Cp X cL hX vs cs ls lo gs) (hu:X.A.units+2<cLine) (h2:vs.contains 2=true) (h7:vs.contains 7=true) (h8:vs.contains 8=true):PE X (.Compare (.Tuple [.Name "first" p1,.Name "second" p2] k1 p3) [.In] [.Name "known" p4] p5) (Cy X.prog X.w X.K):=
 sU (ER hu (u4 (bK (ox S 7 _ _ rfl h7) (bK (ox S 8 _ _ rfl h8) dF (aH rfl)) (aH rfl))) (ox S 2 _ _ rfl h2)) (by with_unfolding_all rfl)
theorem yv (S:Cp X cL hX vs cs ls lo gs) (hu:X.A.units+2<cLine) (n_any:X.mg "any"=none) {c2 l2:Nat} (hx:cL[c2]?=some x) (hy:cL[l2]?=some y) (hv:vs.contains l2=true) (hg:gs.contains 2=true)
  (h1:vi cL [c2] cs scope=true) (h2:d6 cL hX [2,7,8] cs' [c2] [] [] scope=true) (hc:[c2].contains c2=true) (hs:∀z,foldedSetIterable (.Name y p7) X.env z=pure z) :
  PE X (.Call (.Name "any" p0) [.ListComp (.Compare (.Tuple [.Name "first" p1,.Name "second" p2] k1 p3) [.In] [.Name "known" p4] p5) [⟨.Name x p6,.Name y p7,[],0⟩] scope pos] [] pos2) (jV (eo X.K true) (ao (bJ [c2] (bf X.K (ai l2)) (av c2) b3 (Cy X.prog X.w X.K)) bb)):=by
 have hN:X.N.Nodup:=by rw [S.hN];exact S.nd
 have B:=fun cells C s₀ H₀ ex=>S.blk h2 cells C s₀ H₀ ex
 exact yU (qA S.calm) (S.g (j:=2) rfl hg).1 n_any Em (bK (xQ (yY S h1) S.calm (nq (ox S l2 _ _ hy hv))
  (fun cells C s₀ H₀ ex=>mi (X:=L2.blk X scope cells C s₀ H₀ ex) (i:=c2) hN (by show X.N[c2]?=_;rw [S.hN];exact hx) ((B cells C s₀ H₀ ex).loc c2 _ hx hc).1 ((B cells C s₀ H₀ ex).loc c2 _ hx hc).2)
  (fun cells C s₀ H₀ ex=>By)
  (fun cells C s₀ H₀ ex=>DI (X:=L2.blk X scope cells C s₀ H₀ ex) (B cells C s₀ H₀ ex) hu rfl rfl rfl) hs) dF (aH rfl)) (S.g (j:=2) rfl hg).2.2 (S.g (j:=2) rfl hg).2.1 (aH rfl) rfl
theorem oM (S:J0 X) (hu:X.A.units+2<cLine) (n_all:X.mg "all"=none) {c l:Nat} {vs':List Nat} {elt:Expr} {te:TE} (hx:cL[c]?=some x) (hy:cL[l]?=some y) (hv:[0,1,2,3,4,5,6].contains l=true)
  (h1:vi cL [c] [2,4,5] scope=true) (h2:d6 cL hX vs' cs' [c] [] [2] scope=true) (hc:[c].contains c=true) (hs:∀z,foldedSetIterable (.Name y p7) X.env z=pure z)
  (he:∀cells C s₀ H₀ ex,Cp (L2.blk X scope cells C s₀ H₀ ex) cL hX vs' cs' [c] [] [2]->PE (L2.blk X scope cells C s₀ H₀ ex) elt te) :
  PE X (.Call (.Name "all" p0) [.ListComp elt [⟨.Name x p6,.Name y p7,[],0⟩] scope pos] [] pos2) (jV (eo X.K false) (ao (bJ [c] (bf X.K (ai l)) (av c) b3 te) bb)):=by
 have hN:X.N.Nodup:=by rw [S.hN];exact S.nd
 have B:=fun cells C s₀ H₀ ex=>S.blk h2 cells C s₀ H₀ ex
 exact yU (Fj S.calm) (S.g (j:=1) rfl rfl).1 n_all o4 (bK (xQ (yY S h1) S.calm (nq (ox S l _ _ hy hv))
  (fun cells C s₀ H₀ ex=>mi (X:=L2.blk X scope cells C s₀ H₀ ex) (i:=c) hN (by show X.N[c]?=_;rw [S.hN];exact hx) ((B cells C s₀ H₀ ex).loc c _ hx hc).1 ((B cells C s₀ H₀ ex).loc c _ hx hc).2)
  (fun cells C s₀ H₀ ex=>By)
  (fun cells C s₀ H₀ ex=>he cells C s₀ H₀ ex (B cells C s₀ H₀ ex)) hs) dF (aH rfl)) (S.g (j:=1) rfl rfl).2.2 (S.g (j:=1) rfl rfl).2.1 (aH rfl) rfl
theorem Eb (S:J0 X) (R:Rm X) (hp:PassesOwn (model X.prog X.w) X.A X.env X.xe) (n_all:X.mg "all"=none) (n_any:X.mg "any"=none) (c:gz X "look_of" 3 bH):PSs X (fG bq) (FH X.prog X.w X.K):=by
 have hN:X.N.Nodup:=by rw [S.hN];exact S.nd
 have hu:X.A.units+2<cLine:=Nat.lt_of_le_of_lt (by omega) R
 have g:∀(i:Nat) (x:Str),cL[i]?=some x->X.N[i]?=some x:=fun i x e=>by rw [S.hN];exact e
 have lc:∀(i:Nat) (x:Str),cL[i]?=some x->[0,1,2,3,4,5,6].contains i=true->Loc X.env.scope x/\(X.fn x=true\/X.env.scope.names.lookup x=some .local):=fun i x e hi=>S.loc i x e hi
 refine cK (dh (ct (pN R) (cc S 0 rfl rfl c (da_cons (cv S 0 rfl rfl) (da_cons (de_idx (cv S 1 rfl rfl) de_int (fun _ _=>rfl)) (da_cons (cv S 3 rfl rfl) da_nil (aH rfl)) (aH rfl)) (aH rfl)) (aH rfl) rfl) (cc S 0 rfl rfl c (da_cons (cv S 0 rfl rfl) (da_cons (de_idx (cv S 1 rfl rfl) de_int (fun _ _=>rfl)) (da_cons (cv S 3 rfl rfl) da_nil (aH rfl)) (aH rfl)) (aH rfl)) (aH rfl) rfl) (by with_unfolding_all rfl)) (dv (iH dM)) pe) ?_
 refine cK (qH hN (g 4 _ rfl) (lc 4 _ rfl rfl).1 (de_idx (de_idx (cv S 0 rfl rfl) de_int (fun _ _=>rfl)) (de_idx (cv S 1 rfl rfl) de_int (fun _ _=>rfl)) (fun _ _=>rfl)) rfl (lc 4 _ rfl rfl).2) ?_
 refine cK (qH hN (g 5 _ rfl) (lc 5 _ rfl rfl).1 (de_idx (de_idx (cv S 0 rfl rfl) de_int (fun _ _=>rfl)) (de_idx (cv S 1 rfl rfl) de_int (fun _ _=>rfl)) (fun _ _=>rfl)) rfl (lc 5 _ rfl rfl).2) ?_
 refine cK (qH hN (g 6 _ rfl) (lc 6 _ rfl rfl).1 (oM (c:=7) (l:=4) (vs':=[2,5,7]) (cs':=[2,5,7]) S hu n_all rfl rfl rfl (by kernel_rfl) (by kernel_rfl) rfl (fun _=>rfl) fun cells C s₀ H₀ ex B=>yv (c2:=8) (l2:=5) (cs':=[2,7]) B hu n_any rfl rfl rfl rfl (by kernel_rfl) (by kernel_rfl) rfl (fun _=>rfl)) rfl (lc 6 _ rfl rfl).2) ?_
 exact dv (iH (sX (ox S 6 _ _ rfl rfl) (pe_one (oM (c:=8) (l:=5) (vs':=[2,4,8]) (cs':=[2,4,8]) S hu n_all rfl rfl rfl (by kernel_rfl) (by kernel_rfl) rfl (fun _=>rfl) fun cells C s₀ H₀ ex B=>yv (c2:=7) (l2:=4) (cs':=[2,8]) B hu n_any rfl rfl rfl rfl (by kernel_rfl) (by kernel_rfl) rfl (fun _=>rfl)))))
theorem fA {P:Program} {w:World} {f:Addr} {j k:Nat} (F:Fun K "is_pair_right" "is_pair_right" bq f fd) (hm:mg "is_pair_right"=some (.ref f)) (b:Binds K fd ["world", "pair", "known", "owned"] []) (n_all:mg "all"=none) (n_any:mg "any"=none)
  (c:DefOk P w K mg base j "look_of" 3 bH) (hj:decide (j<=k)=true):uU P w K mg base (k+1):=Dp F hm b CI DZ Dw n_all n_any c hj fun X S R hp n1 n2 c=>Eb S R hp n1 n2 c
noncomputable abbrev CpB (X:Cx):Prop:=Cp X fF nj [0,1,2,3,4] [0,2,3] [0,1,2,3,4] [1,4] [0,1,3]
theorem Be (S:CpB X) (n_all:X.mg "all"=none) (c:Ji X) {p8:Pos}
  (h1:vi fF [4] [0,2,3] scope=true) (h2:d6 fF nj [0,2,3,4] [0,2,3] [4] [] [2] scope=true) (hs:∀z,foldedSetIterable (.Name "pairs" p7) X.env z=pure z) :
  PE X (.Call (.Name "all" p0) [.ListComp (.Call (.Name "is_pair_right" p1) [.Name "world" p2,.Name "pair" p3,.Name "known" p4,.Name "owned" p5] [] p8) [⟨.Name "pair" p6,.Name "pairs" p7,[],0⟩] scope pos] [] pos2) (jV (eo X.K false) (ao (bJ [4] (bf X.K (ai 1)) (av 4) b3 (cF (pk X.prog X.w X.K) [] L2.E0 (ao (ai 0) (ao (ai 4) (ao (ai 3) (ao (ai 2) bb)))))) bb)):=by
 have hN:X.N.Nodup:=by rw [S.hN];exact S.nd
 have B:=fun cells C s₀ H₀ ex=>S.blk h2 cells C s₀ H₀ ex
 obtain ⟨k,f,fd,ps,F,hr,a1,a2,a3⟩:=c;exact yU (Fj S.calm) (S.g (j:=3) rfl rfl).1 n_all o4 (bK (xQ (yY S h1) S.calm (nq (ox S 1 _ _ rfl rfl))
  (fun cells C s₀ H₀ ex=>mi (X:=L2.blk X scope cells C s₀ H₀ ex) (i:=4) hN (by show X.N[4]?=_;rw [S.hN];rfl) ((B cells C s₀ H₀ ex).loc 4 _ rfl rfl).1 ((B cells C s₀ H₀ ex).loc 4 _ rfl rfl).2)
  (fun cells C s₀ H₀ ex=>By)
  (fun cells C s₀ H₀ ex=>ES (X:=L2.blk X scope cells C s₀ H₀ ex) F hr ((B cells C s₀ H₀ ex).g (j:=2) rfl rfl).1 a1 a2 a3 .nil om (bK (ox (B cells C s₀ H₀ ex) 0 _ _ rfl rfl) (bK (ox (B cells C s₀ H₀ ex) 4 _ _ rfl rfl) (bK (ox (B cells C s₀ H₀ ex) 3 _ _ rfl rfl) (bK (ox (B cells C s₀ H₀ ex) 2 _ _ rfl rfl) dF (aH rfl)) (aH rfl)) (aH rfl)) (aH rfl)) (by decide) (aH rfl) rfl) hs) dF (aH rfl)) (S.g (j:=3) rfl rfl).2.2 (S.g (j:=3) rfl rfl).2.1 (aH rfl) rfl
theorem Eh (S:CpB X) (R:Rm X) (hp:PassesOwn (model X.prog X.w) X.A X.env X.xe) (n_all:X.mg "all"=none) (c1:gz X "check_world" 1 ay) (c2:gz X "check_room" 2 aA) (c:Ji X):PSs X (fG bD) (FM X.prog X.w X.K):=by
 have hN:X.N.Nodup:=by rw [S.hN];exact S.nd
 have hu:X.A.units+2<cLine:=Nat.lt_of_le_of_lt (by omega) R
 have g:∀(i:Nat) (x:Str),fF[i]?=some x->X.N[i]?=some x:=fun i x e=>by rw [S.hN];exact e
 have lc:∀(i:Nat) (x:Str),fF[i]?=some x->[0,1,2,3,4].contains i=true->Loc X.env.scope x/\(X.fn x=true\/X.env.scope.names.lookup x=some .local):=fun i x e hi=>S.loc i x e hi
 refine cK (pb (cc S 0 rfl rfl c1 (da_cons (cv S 0 rfl rfl) da_nil (aH rfl)) (aH rfl) rfl) rfl) ?_
 refine cK (qH hN (g 3 _ rfl) (lc 3 _ rfl rfl).1 (EZ [false,false]) rfl (lc 3 _ rfl rfl).2) ?_
 refine cK (nu hp S.calm (nq (ox S 1 _ _ rfl rfl)) (mi hN (g 4 _ rfl) (lc 4 _ rfl rfl).1 (lc 4 _ rfl rfl).2) ?_ (fun _=>rfl)) ?_
 ·refine cK (pb (cc S 1 rfl rfl c2 (da_cons (cv S 0 rfl rfl) (da_cons (de_idx (cv S 4 rfl rfl) de_int (fun _ _=>rfl)) da_nil (aH rfl)) (aH rfl)) (aH rfl) rfl) rfl) ?_
  refine cK (pb (cc S 1 rfl rfl c2 (da_cons (cv S 0 rfl rfl) (da_cons (de_idx (cv S 4 rfl rfl) de_int (fun _ _=>rfl)) da_nil (aH rfl)) (aH rfl)) (aH rfl) rfl) rfl) ?_
  exact dv (oe hu (ox S 3 _ _ rfl rfl) (ox S 4 _ _ rfl rfl) dM rfl)
 exact dv (iH (Be S n_all c (by kernel_rfl) (by kernel_rfl) (fun _=>rfl)))
theorem fY {P:Program} {w:World} {f:Addr} {j j1 j2 k:Nat} (F:Fun K "are_alike_by" "are_alike_by" bD f fd) (hm:mg "are_alike_by"=some (.ref f)) (b:Binds K fd ["world", "pairs", "owned"] []) (n_all:mg "all"=none)
  (c1:DefOk P w K mg base j1 "check_world" 1 ay) (c2:DefOk P w K mg base j2 "check_room" 2 aA) (c:uU P w K mg base j) (h1:decide (j1<=k)=true) (h2:decide (j2<=k)=true) (hj:decide (j<=k)=true):DefOk P w K mg base (k+1) "are_alike_by" 3 aJ:=
 Dq F hm b CO D5 DB n_all c1 c2 c h1 h2 hj fun X S R hp n c1 c2 c=>Eh S R hp n c1 c2 c
end KC
namespace T
open PySem PySem.Spec L2
open PyProof.Rows hiding St
variable {sh:List Bool} {a:Addr} {ep:Nat} {X:Cx} {td:TE} {tg:Expr}
noncomputable def D2H (P:Program) (w:World) (K:Fg) (H:Hp) (O:List Addr) (sh:List Bool) (a:Addr) (kvs:List (List It×V)):Prop:=
 ∃xs,H a=some (jW P w sh a xs)/\KX K (aC H O) sh kvs xs/\(xs.map (·.1)).Nodup/\xs.length<=1000/\(a==sysModules)=false
section
variable {P:Program} {w:World} {K:Fg} {H H':Hp} {O:List Addr} {sh:List Bool} {a:Addr} {kvs:List (List It×V)}
theorem D2H.d (h:D2H P w K H O sh a kvs):D2 P w K H sh a kvs:=let ⟨xs,h1,h2,h3⟩:=h;⟨xs,h1,h2.mono fun c xs=>aV hid_le,h3⟩
theorem D2H.mono (x:D2H P w K H O sh a kvs) (e:H' a=H a) (m:∀c xs,SqT K (aC H O) c xs->SqT K (aC H' O) c xs):D2H P w K H' O sh a kvs:=let ⟨xs,h1,h2,h3⟩:=x;⟨xs,e.trans h1,h2.mono m,h3⟩
theorem GS {c:Addr} {ob:HO} (hn:∀vs,H a≠some (.tup vs)) (hn2:∀vs o,H a≠some (.frz o (.tup vs))) {ys:List V} (h:SqT K (aC H O) c ys):SqT K (aC (upd H a ob) O) c ys:=by
 have key:∀u,aC H O c=some u->H a≠some u->aC (upd H a ob) O c=some u:=fun u hu ha=>by
  unfold aC at hu ⊢
  split at hu
  ·cases hu
  ·rename_i nc
   rw [if_neg nc,bw (fun z=>ha (by rw [<-z];exact hu))]
   exact hu
 rcases h with (h | ⟨o,h⟩) | h
 ·exact .inl (.inl (key _ h (hn _)))
 ·exact .inl (.inr ⟨o,key _ h (hn2 _ _)⟩)
 ·exact .inr h
end
noncomputable def jr (P:Program) (w:World) (K:Fg) (sh:List Bool) (tk tv:TE):TE:=fun U H Q=>∃O,∀p ob,H p=none->D2H P w K (upd H p ob) O sh p []->tk U (upd H p ob) fun y H1=>tv U H1 fun v H2=>∃b ks,y=.ref b/\D2H P w K H2 O sh p []/\K2 K (aC H2 O) ks b/\ks.map isT=sh/\∀ob2,D2H P w K (upd H2 p ob2) O sh p [(ks,v)]->Q (.ref p) (upd H2 p ob2)
noncomputable def nR (P:Program) (w:World) (K:Fg) (td ty tv:TE):TS:=fun D U H=>tv U H fun v H1=>td U H1 fun x H2=>ty U H2 fun y H3=>∃a b sh kvs ks O,x=.ref a/\y=.ref b/\D2H P w K H3 O sh a kvs/\K2 K (aC H3 O) ks b/\ks.map isT=sh/\kvs.length<1000/\cg kvs ks=none /\
 ∀ob,D2H P w K (upd H3 a ob) O sh a (kvs++[(ks,v)])->D.nx U (upd H3 a ob)
noncomputable def kB (P:Program) (w:World) (K:Fg):List V->Hp->VK->Prop:=fun ys H Q=>∃a O sh kvs,ys=[.ref a]/\D2H P w K H O sh a kvs/\∀l bs,H l=none->Paired (fun (p:List It×V) b=>K2 K (aC H O) p.1 b) kvs bs->Q (.ref l) (upd H l (.lst (bs.map V.ref)))
section
variable {X:Cx} {o i e value:Expr} {pos pos' tpos:Pos} {td ty tv:TE}
theorem iR {k v:Expr} {tk tv:TE} (sh:List Bool) (hu:X.A.units+2<cLine) (hk:PE X k tk) (hv:PE X v tv):PE X (.Dict [some k] [v] pos) (jr X.prog X.w X.K sh tk tv):=by
 intro pins s U H Q I q;obtain ⟨O,q⟩:=q;have hn:=I.hok.fresh (KA s.heap.objs.size)
 have I1:=I.laid (a:=s.heap.objs.size) (o:=jW X.prog X.w sh s.heap.objs.size []) (h':=s.heap.push { cls:=.type "dict",data:=.dict #[] }) (t':=s.toks) (fun _ _ q=>Kz _ q) (KA _) (Bw ⟨_,#[],0,Heap.get?_push_size _ rfl,⟨rfl,rfl,rfl⟩,rfl,rfl⟩)
 have q0:=q _ _ hn ⟨[],bL,.nil,nodup_nil,by simp,beq_eq_false_iff_ne.mpr (Ne.symm (Nat.ne_of_lt I.big))⟩
 refine wpAny_Dict_any rfl rfl (by simp) (by show 1<=15;omega) (bg ((sP hk hv we) pins _ U _ (fun ps H2=>match ps with
  | [(y,v)]=>∃b ks,y=.ref b/\D2H X.prog X.w X.K H2 O sh s.heap.objs.size []/\K2 X.K (aC H2 O) ks b/\ks.map isT=sh/\∀ob2,D2H X.prog X.w X.K (upd H2 s.heap.objs.size ob2) O sh s.heap.objs.size [(ks,v)]->Q (.ref s.heap.objs.size) (upd H2 s.heap.objs.size ob2)
  | _=>False) I1 q0) fun ws s2 ⟨ps,H2,I2,rel,hq⟩=>?_)
 match ps,rel,hq with
 | [(y,v)],rel,⟨b,ks,ey,⟨xs,e,r,nd,hz,hd⟩,hK,hsh,q2⟩=>
  subst ey
  cases rel with
  | @cons _ pr _ _ h t=>
   cases t;obtain ⟨kv,vv⟩:=pr;obtain ⟨h1,h2⟩:=h;obtain rfl:kv=Value.ref b:=h1
   cases r;have dd:=xT I2 e .nil nd
   have rm2:(cS X.prog X.w sh).room X.A:=by show X.A.units+1<cLine;omega
   unfold storeAll;rw [List.forIn_cons];refine Kx (Kx (wpAny_dictSet_heap (hsz:=by simp) rm2 ⟨uX I2 (hK.mono fun c xs=>aV hid_le),hsh⟩ dd fun h' dd' hs'=>Ky ?_))
   show wpAny _ _ (forIn [] PUnit.unit _) _ _ _
   rw [List.forIn_nil];refine Ky ?_
   rw [storedH_new rfl] at dd';obtain ⟨o',es,ep,hq',h2',h3,h4,_,h5⟩:=dd'
   have m:∀c ys,SqT X.K (aC H2 O) c ys->SqT X.K (aC (upd H2 s.heap.objs.size (jW X.prog X.w sh s.heap.objs.size [(ks,b,vv)])) O) c ys:=fun c ys hc=>GS (fun _ z=>by rw [e] at z;cases z) (fun _ _ z=>by rw [e] at z;cases z) hc
   have I4:=EK (t':=s2.toks+(cS X.prog X.w sh).draws ks) (ob:=jW X.prog X.w sh s.heap.objs.size [(ks,b,vv)]) I2 (by rw [e];exact True.intro) hs' ⟨o',hq'⟩ (Bw ⟨o',es,ep,hq',h2',h3,h4⟩)
   exact ⟨.ref s.heap.objs.size,_,I4,rfl,q2 _ ⟨[(ks,b,vv)],bL,.cons ⟨rfl,hsh,hK.mono m,h2⟩ .nil,h5,by simp,hd⟩⟩
theorem iQ (hu:X.A.units+2<cLine) (ho:PE X o td) (hi:PE X i ty) (hv:PE X value tv) (hs:swapsWith value (some (.Subscript o i pos')) pos.line X.env=pure false) :
  PS X (.Assign [.Subscript o i pos'] value pos) (nR X.prog X.w X.K td ty tv):=by
 intro pins s U H D I h;refine wpAny_Assign_Subscript (bg (hv pins s U H _ I h) fun r s1 ⟨v,H1,I1,rv,q1⟩=>bg (ho pins s1 U H1 _ I1 q1) fun u s2 ⟨x,H2,I2,rx,q2⟩=>bg (hi pins s2 U H2 _ I2 q2) fun iv s3 ⟨y,H3,I3,ry,a,b,sh,kvs,ks,O,ex,ey,⟨xs,e,rr,nd,hz,hd⟩,k,hsh,hl,hn,q3⟩=>?_) hs
 subst ex ey;obtain rfl:u=Value.ref a:=rx
 obtain rfl:iv=Value.ref b:=ry
 have rr0:=rr.mono fun c xs=>aV hid_le
 have dd:=xT I3 e rr0 nd
 have hb:(1000:Nat)<=sizeLine:=by decide
 have hat:atKey xs ks=none:=by
  have q:=(rr.val ks).isSome_eq
  rw [hn,Option.isSome_map] at q
  cases z:atKey xs ks with
  | none=>rfl
  | some _=>rw [z] at q;cases q
 refine wpAny_setItem_heap (hsz:=by omega) (gK hu) ⟨uX I3 (k.mono fun c xs=>aV hid_le),hsh⟩ dd fun h' dd' hs'=>?_
 rw [storedH_new hat] at dd';obtain ⟨q,es,ep,hq,h2,h3,h4,_,h5⟩:=dd'
 have m:∀c ys,SqT X.K (aC H3 O) c ys->SqT X.K (aC (upd H3 a (jW X.prog X.w sh a (xs++[(ks,b,r)]))) O) c ys:=fun c ys hc=>GS (fun _ z=>by rw [e] at z;cases z) (fun _ _ z=>by rw [e] at z;cases z) hc
 have I4:=EK (t':=s3.toks+(cS X.prog X.w sh).draws ks) (ob:=jW X.prog X.w sh a (xs++[(ks,b,r)])) I3 (by rw [e];exact True.intro) hs' ⟨q,hq⟩ (Bw ⟨q,es,ep,hq,h2,h3,h4⟩)
 refine ⟨U,_,I4,q3 _ ⟨xs++[(ks,b,r)],bL,?_,h5,?_,hd⟩⟩
 ·exact Paired.snoc (rr.mono m) ⟨rfl,hsh,k.mono m,rv⟩
 ·rw [length_append,length_singleton,<-rr.len]
  omega
theorem jP (hc:X.calm=true):CallR X (.type "list") (kB X.prog X.w X.K):=by
 intro pins s U H ys us Q I rv h;obtain ⟨a,O,sh,kvs,rfl,⟨xs,e,r,nd,hz,hd⟩,q⟩:=h;obtain ⟨u,rfl,ru⟩:=rv.one
 cases ru;obtain ⟨⟨o,es,ep,h1,h2,h3,h4⟩,_⟩:=(show ObjOk X.prog X.w H s.heap a (jW X.prog X.w sh a xs) from I.hok a _ e);have hE:EAt s.heap a (xs.map (·.2.1)) ep:=⟨o,es,h1,h2,h3,by rw [h4,map_map,map_map];rfl⟩
 have hb:(1000:Nat)<=sizeLine:=by decide
 have hn:(xs.map (·.2.1)).length<=sizeLine:=by rw [length_map];omega
 refine PySem.W.kdl_call (HV hd) (I.ok.hd hc) hE hn fun h' tk acc c' hk ho hacc=>?_
 have ea:acc.toList=(xs.map (·.2.1)).map Value.ref:=by
  apply ext_getElem?
  intro i;rw [Array.getElem?_toList]
  cases e2:acc[i]? with
  | none=>
   have:=Array.getElem?_eq_none_iff.mp e2
   rw [getElem?_eq_none (by rw [length_map];have:=hacc.1;omega)]
  | some v=>
   obtain ⟨b,e3,rfl⟩:=hacc.2 i v e2;rw [getElem?_map,e3];rfl
 refine ⟨.ref _,upd H _ (.lst ((xs.map (·.2.1)).map V.ref)),I.laid (t':=tk) (fun b o e=>hk b o e) (KA _) ⟨by rw [length_map];exact hn,acc.toList,c',by rw [ea];exact j0,by simpa using ho⟩,rfl,q _ _ (I.hok.fresh (KA _)) (yp r)⟩
end
noncomputable def dD (P:Program) (w:World) (sh:List Bool) (a:Addr) (xs:List (List It×Addr×Value)) (ep:Nat):HO:=.ext fun h=>∃o es,h.get? a=some o/\o.ExactDict/\o.data=.dict es ep/\es.toList=xs.map (entryOfKey (cS P w sh))
noncomputable def Kk (P:Program) (w:World) (K:Fg) (H:Hp) (sh:List Bool) (a:Addr) (kvs:List (List It×V)) (xs:List (List It×Addr×Value)) (ep:Nat):Prop:=
 H a=some (dD P w sh a xs ep)/\KX K H sh kvs xs/\(xs.map (·.1)).Nodup/\xs.length<=1000/\(a==sysModules)=false
theorem wy {P:Program} {w:World} {H:Hp} {h:Heap} {xs:List (List It×Addr×Value)} (x:∃o es,h.get? a=some o/\o.ExactDict/\o.data=.dict es ep/\es.toList=xs.map (entryOfKey (cS P w sh))):ObjOk P w H h a (dD P w sh a xs ep):=by
 refine ⟨x,let ⟨o,_,ho,_⟩:=x;⟨o,ho⟩,fun h1 h2 ⟨o,es,ho,r⟩ k=>⟨o,es,k o ho,r⟩⟩
theorem ql {pins:List (Addr×Obj)} {U:St} {H:Hp} {s:Shared} {kvs:List (List It×V)} {xs:List (List It×Addr×Value)} (I:L2.Inv X pins U H s) (e:H a=some (dD X.prog X.w sh a xs ep)) (r:KX X.K H sh kvs xs) (nd:(xs.map (·.1)).Nodup):s.heap.DictOfH (cS X.prog X.w sh) a xs:=by
 obtain ⟨⟨o,es,h1,h2,h3,h4⟩,_⟩:=(show ObjOk X.prog X.w H s.heap a (dD X.prog X.w sh a xs ep) from I.hok a _ e);refine ⟨o,es,ep,h1,h2,h3,h4,fun x hx=>?_,nd⟩
 have all:∀{l:List (List It×V)} {m:List (List It×Addr×Value)},KX X.K H sh l m->∀x∈m,(cS X.prog X.w sh).is s.heap x.1 x.2.1:=by
  intro l m q;induction q with
  | nil=>intro x hx;exact nomatch hx
  | @cons p q ps qs hq t ih=>
   intro x hx;rcases Kr hx with e | hx
   ·subst e
    exact ⟨by rw [<-hq.1];exact uX I hq.2.2.1,by rw [<-hq.1];exact hq.2.1⟩
   ·exact ih x hx
 exact all r x hx
noncomputable def nK (P:Program) (w:World) (K:Fg) (td ty:TE):TE:=fun U H Q=>td U H fun x H1=>ty U H1 fun y H2=>∃a b sh kvs ks v xs ep,x=.ref a/\y=.ref b/\Kk P w K H2 sh a kvs xs ep/\K2 K H2 ks b/\ks.map isT=sh/\cg kvs ks=some v/\Q v H2
theorem pR {o i:Expr} {pos:Pos} {ty:TE} (hu:X.A.units+2<cLine) (ho:PE X o td) (hi:PE X i ty) (hs:Bj i):PE X (.Subscript o i pos) (nK X.prog X.w X.K td ty):=by
 intro pins s U H Q I h;refine nL PySem.F.slot_dict_getitem.lookup hs (bg (ho pins s U H _ I h) fun u s1 ⟨x,H1,I1,rx,q1⟩=>bg (hi pins s1 U H1 _ I1 q1) fun iv s2 ⟨y,H2,I2,ry,a,b,sh,kvs,ks,v,xs,ep,ex,ey,⟨e,r,nd,hz,hd⟩,k,hsh,hv,q2⟩=>?_)
 subst ex ey;obtain rfl:u=Value.ref a:=rx
 obtain rfl:iv=Value.ref b:=ry
 have dd:=ql I2 e r nd
 refine ⟨dd.typeIs,?_⟩
 obtain ⟨w',hw,rw'⟩:=RelO.some_of (v:=v) (o:=(atKey xs ks).map (·.2)) (by rw [<-hv];exact r.val ks)
 obtain ⟨p,hp,hp2⟩:=Option.map_eq_some_iff.mp hw;refine wpAny_getItem_heap (gK hu) ⟨uX I2 k,hsh⟩ dd hp ?_
 rw [hp2];exact ⟨v,H2,I2.tok _,rw',q2⟩
noncomputable def JV (ob:HO) (a:Addr) (bs:List Addr):L2.It:=
 ⟨fun i H=>H a=some ob/\i<bs.length,fun i H x H'=>H'=H/\∃b,bs[i]?=some b/\x=.ref b,fun i H=>H a=some ob/\bs.length<=i⟩
theorem vw {P:Program} {w:World} {K:Fg} {xs:List (List It×Addr×Value)} (a it:Addr) (hd:(a==sysModules)=false) (hz:xs.length<=1000):qG P w K tg (JV (dD P w sh a xs ep) a (xs.map (·.2.1))) [it] it (fun i h=>h.IsKeyIter it a i (xs.map (·.2.1)).length ep) where
 mem:=by simp
 obj:=fun i h st b hb=>by
  have e:b=it:=by simpa using hb
  subst e;obtain ⟨o,e,c,d⟩:=st;exact ⟨o,e,fun v z=>by rw [d] at z;cases z⟩
 keep:=fun i h h' st k=>st.at fun o e=>k it (by simp) o e
 item:=by
  intro X hP hw hK hc i pins s U H E I hf st hg;subst hP hw hK;obtain ⟨e,hi⟩:=hg;obtain ⟨⟨o,es,h1,h2,h3,h4⟩,_⟩:=(show ObjOk X.prog X.w H s.heap a (dD X.prog X.w sh a xs ep) from I.hok a _ e);have hE:EAt s.heap a (xs.map (·.2.1)) ep:=⟨o,es,h1,h2,h3,by rw [h4,map_map,map_map];rfl⟩
  obtain ⟨f0,f1,f2,f3,f4,f5⟩:=hf it (by simp)
  have hx:(xs.map (·.2.1))[i]?=some (xs.map (·.2.1))[i]:=Ks hi
  generalize (xs.map (·.2.1))[i]=b at hx
  refine ym st hE hx fun h' st' sb=>?_
  have I1:L2.Inv X pins U H { s with heap:=h' }:=I.turned (t':=s.toks) (fun b o hb e=>(sb.2 b hb).trans e) f0 f1 f3 f4 f5
  obtain ⟨o',e',c',d'⟩:=id st'
  exact ⟨.ref b,rfl,oR (s:={ s with heap:=h' }) e' c' d' (by decide) ⟨.ref b,H,I1,rfl,⟨rfl,b,hx,rfl⟩,st',fun b hb=>(hf b hb).1⟩⟩
 done:=by
  intro X hP hw hK hc i pins s U H E I hf st hg;subst hP hw hK;obtain ⟨e,hi⟩:=hg;obtain ⟨⟨o,es,h1,h2,h3,h4⟩,_⟩:=(show ObjOk X.prog X.w H s.heap a (dD X.prog X.w sh a xs ep) from I.hok a _ e);have hE:EAt s.heap a (xs.map (·.2.1)) ep:=⟨o,es,h1,h2,h3,by rw [h4,map_map,map_map];rfl⟩
  obtain ⟨f0,f1,f2,f3,f4,f5⟩:=hf it (by simp)
  exact DQ (I.ok.hd hc) st hE hi fun h' eb=>⟨rfl,I.turned (t':=s.toks) (fun b o hb e=>eb b o hb e) f0 f1 f3 f4 f5⟩
 self:=fun _ _ _ _ _ st h=>wpAny_pyIter_keyiter st h
noncomputable def JK (P:Program) (w:World) (K:Fg) (td:TE):TI:=fun U H R=>td U H fun x H1=>∃a sh kvs,x=.ref a/\D2 P w K H1 sh a kvs/\∀xs ep,KX K H1 sh kvs xs->(xs.map (·.1)).Nodup->xs.length<=1000->(a==sysModules)=false->H1 a=some (jW P w sh a xs)->R (JV (dD P w sh a xs ep) a (xs.map (·.2.1))) (upd H1 a (dD P w sh a xs ep))
theorem Di {e:Expr} (hl:PE X e td):PI X tg e (JK X.prog X.w X.K td):=by
 intro pins s U H R I h;refine bg (hl pins s U H _ I h) fun v s1 ⟨x,H1,I1,r1,q1⟩=>?_
 obtain ⟨a,sh,kvs,ex,⟨xs,e,r,nd,hz,hd⟩,q⟩:=q1;subst ex
 cases r1;obtain ⟨⟨o,es,ep,h1,h2,h3,h4⟩,_⟩:=(show ObjOk X.prog X.w H1 s1.heap a (jW X.prog X.w sh a xs) from I1.hok a _ e);have hE:EAt s1.heap a (xs.map (·.2.1)) ep:=⟨o,es,h1,h2,h3,by rw [h4,map_map,map_map];rfl⟩
 have I2:L2.Inv X pins U (upd H1 a (dD X.prog X.w sh a xs ep)) { s1 with heap:=s1.heap,toks:=s1.toks }:=I1.write (x:=a) (e:=a) (o:=dD X.prog X.w sh a xs ep) (t':=s1.toks) (by rw [e];exact True.intro) (.inl rfl) (fun b u _ q=>q) ⟨o,h1⟩ (wy ⟨o,es,h1,h2,h3,h4⟩)
 refine yu hd hE ?_
 have hne:a≠s1.heap.objs.size:=Nat.ne_of_lt hE.lt
 refine ⟨s1.heap.objs.size,[s1.heap.objs.size],_,_,upd H1 a (dD X.prog X.w sh a xs ep),rfl,I2.kept (t':=s1.toks) fun b o e=>Kz _ e,vw (sh:=sh) (xs:=xs) (ep:=ep) a s1.heap.objs.size hd hz,⟨_,Heap.get?_push_size _ rfl,rfl,rfl⟩,fun b hb=>?_,q xs ep r nd hz hd e⟩
 have eb:b=s1.heap.objs.size:=by simpa using hb
 subst eb;exact I2.fpOk (KA _) (by rw [bw (Ne.symm hne)];exact I1.hok.fresh (KA _))
end T
namespace KC
open PySem PySem.Spec L2 T PySem.SeqAt
open PyProof.Rows hiding St
section
variable {α:Type} [DecidableEq α]
noncomputable def vA (p:List α×List α) (t:α):List α×List α:=if t∈p.1 then p else (p.1++[t],p.2++[t])
noncomputable def dH (ts:List α) (p:List α×List α):List α×List α:=ts.foldl vA p
noncomputable def ua (sc:α->List α):Nat->List α×List α->List α
 | 0,p=>p.1
 | n+1,p=>match p.2.getLast? with
  | none=>p.1
  | some h=>ua sc n (dH (sc h) (p.1,p.2.dropLast))
theorem fM:∀{ks L:List α},ks.Nodup->(∀x∈ks,x∈L)->ks.length<=L.length
 | [],_,_,_=>Nat.zero_le _
 | x::ks,L,nd,h=>by
  have hx:=h x mem_cons_self
  obtain ⟨n1,n2⟩:=List.nodup_cons.mp nd;have ih:=fM (ks:=ks) (L:=L.erase x) n2 fun y hy=>(List.mem_erase_of_ne (fun z:y=x=>n1 (by rw [<-z];exact hy))).mpr (h y (Ku _ hy))
  have hl:=List.length_erase_of_mem hx
  have:0<L.length:=List.length_pos_of_mem hx
  rw [length_cons];omega
structure WB (B:α->Prop) (p:List α×List α):Prop where
 nd:p.1.Nodup
 ok:∀x∈p.1,B x
 sub:∀x∈p.2,x∈p.1
 le:p.2.length<=p.1.length
structure WS (ts:List α) (p q:List α×List α):Prop where
 le:∀x∈p.1,x∈q.1
 ts:∀x∈ts,x∈q.1
 lw:∀x∈p.2,x∈q.2
 new:∀x∈q.1,x∈p.1\/x∈q.2
 len:q.2.length+p.1.length=p.2.length+q.1.length
theorem zh {B:α->Prop} {p:List α×List α} {t:α} (h:WB B p) (ht:B t):WB B (vA p t)/\WS [t] p (vA p t):=by
 unfold vA;split
 ·rename_i hin
  exact ⟨h,fun _ z=>z,fun x hx=>by rw [List.mem_singleton.mp hx];exact hin,fun _ z=>z,fun _ z=>.inl z,rfl⟩
 ·rename_i hn
  refine ⟨⟨List.nodup_append.mpr ⟨h.nd,by simp,fun a ha b hb z=>?_⟩,fun x hx=>?_,fun x hx=>?_,by have:=h.le;simp;omega⟩,fun _ z=>Kp _ z,fun x hx=>Ko _ hx,fun _ z=>Kp _ z,fun x hx=>?_,?_⟩
  ·rw [List.mem_singleton.mp hb] at z
   rw [z] at ha;exact hn ha
  ·rcases Kq hx with z | z
   ·exact h.ok x z
   ·rw [List.mem_singleton.mp z];exact ht
  ·rcases Kq hx with z | z
   ·exact Kp _ (h.sub x z)
   ·exact Ko _ z
  ·rcases Kq hx with z | z
   ·exact .inl z
   ·exact .inr (Ko _ z)
  ·simp;omega
theorem yX {B:α->Prop}:∀{ts:List α} {p:List α×List α},WB B p->(∀t∈ts,B t)->WB B (dH ts p)/\WS ts p (dH ts p)
 | [],p,h,_=>⟨h,fun _ z=>z,(fun _ z=>nomatch z),fun _ z=>z,fun _ z=>.inl z,rfl⟩
 | t::ts,p,h,hB=>by
  obtain ⟨h1,s1⟩:=zh h (hB t mem_cons_self);obtain ⟨h2,s2⟩:=yX (ts:=ts) h1 fun x hx=>hB x (Ku _ hx)
  refine ⟨h2,fun x hx=>s2.le x (s1.le x hx),fun x hx=>?_,fun x hx=>s2.lw x (s1.lw x hx),fun x hx=>?_,?_⟩
  ·rcases Kr hx with z | z
   ·rw [z];exact s2.le t (s1.ts t mem_cons_self)
   ·exact s2.ts x z
  ·rcases s2.new x hx with z | z
   ·rcases s1.new x z with y | y
    ·exact .inl y
    ·exact .inr (s2.lw x y)
   ·exact .inr z
  ·have a:=s1.len
   have b:=s2.len
   show (dH ts (vA p t)).2.length+p.1.length=p.2.length+(dH ts (vA p t)).1.length
   omega
structure WI (B:α->Prop) (sc:α->List α) (a0:α) (p:List α×List α):Prop where
 b:WB B p
 a0:a0∈p.1
 cl:∀x∈p.1,x∈p.2\/∀y∈sc x,y∈p.1
section
variable {B:α->Prop} {sc:α->List α} {a0:α}
theorem tD {h x:α}:∀{ws:List α},ws.getLast?=some h->x∈ws->x∈ws.dropLast\/x=h:=fun {ws} e hx=>by
 have:ws=ws.dropLast++[h]:=by
  have ne:ws≠[]:=fun z=>by rw [z] at e;cases e
  have:=List.dropLast_concat_getLast ne
  rw [List.getLast?_eq_some_getLast ne] at e;rw [<-Option.some.inj e];exact this.symm
 rw [this] at hx;rcases Kq hx with z | z
 ·exact .inl z
 ·exact .inr (List.mem_singleton.mp z)
theorem WI.drop {p:List α×List α} (I:WI B sc a0 p):WB B (p.1,p.2.dropLast):=⟨I.b.nd,I.b.ok,fun x hx=>I.b.sub x ((List.dropLast_sublist _).subset hx),by have:=I.b.le;simp only [length_dropLast];omega⟩
theorem WI.step {p:List α×List α} {h:α} (I:WI B sc a0 p) (hB:∀x,B x->∀y∈sc x,B y) (e:p.2.getLast?=some h):WI B sc a0 (dH (sc h) (p.1,p.2.dropLast))/\(dH (sc h) (p.1,p.2.dropLast)).2.length+p.1.length+1=p.2.length+(dH (sc h) (p.1,p.2.dropLast)).1.length:=by
 have hm:h∈p.2:=mem_of_getLast? e
 obtain ⟨b,s⟩:=yX I.drop (hB h (I.b.ok h (I.b.sub h hm)));refine ⟨⟨b,s.le _ I.a0,fun x hx=>?_⟩,?_⟩
 ·rcases s.new x hx with z | z
  ·rcases I.cl x z with y | y
   ·rcases tD e y with y | y
    ·exact .inl (s.lw x y)
    ·rw [y];exact .inr fun t ht=>s.ts t ht
   ·exact .inr fun t ht=>s.le t (y t ht)
  ·exact .inl z
 ·have:=s.len
  simp only [length_dropLast] at this
  have:0<p.2.length:=List.length_pos_of_mem hm
  omega
theorem t9 {M:Nat} (hM:∀ks:List α,ks.Nodup->(∀x∈ks,B x)->ks.length<=M) (hB:∀x,B x->∀y∈sc x,B y):∀(m:Nat) (p:List α×List α),WI B sc a0 p->2*(M-p.1.length)+p.2.length<m->WI B sc a0 (ua sc m p,[])
 | 0,_,_,h=>absurd h (Nat.not_lt_zero _)
 | m+1,p,I,h=>by
  unfold ua
  cases e:p.2.getLast? with
  | none=>
   have e0:p.2=[]:=List.getLast?_eq_none_iff.mp e
   exact ⟨⟨I.b.nd,I.b.ok,(fun _ z=>nomatch z),Nat.zero_le _⟩,I.a0,fun x hx=>(I.cl x hx).elim (fun z=>by rw [e0] at z;cases z) .inr⟩
  | some t=>
   obtain ⟨I2,hl⟩:=I.step hB e;refine t9 hM hB m _ I2 ?_
   have a:=hM _ I2.b.nd I2.b.ok
   have b:=hM _ I.b.nd I.b.ok
   have c:p.1.length<=(dH (t |> sc) (p.1,p.2.dropLast)).1.length:=fM I.b.nd (yX I.drop (hB t (I.b.ok t (I.b.sub t (mem_of_getLast? e))))).2.le
   omega
end
end
noncomputable def mD (N:List Nat) (r:Nat) (rs:List Nat):Nat:=if r∈rs then r else (rs.filter fun c=>nA N c==nA N r).headD 0
noncomputable def m6 (w:Wd) (N:List Nat) (p:Nat×Nat):List (Nat×Nat):=(w.stp p.1).map (fun a=>(a,mD N a (w.stp p.2)))++(w.stp p.2).map fun b=>(mD N b (w.stp p.1),b)
noncomputable def lY (w:Wd) (N:List Nat) (p:Nat×Nat):Prop:=p.1<w.n/\p.2<w.n/\nA N p.1=nA N p.2
theorem EA {N:List Nat} {r:Nat} {rs:List Nat} (h:∃u∈rs,nA N u=nA N r):mD N r rs∈rs/\nA N (mD N r rs)=nA N r:=by
 unfold mD;split
 ·rename_i hin
  exact ⟨hin,rfl⟩
 ·obtain ⟨u,hu,e⟩:=h
  have hf:u∈rs.filter fun c=>nA N c==nA N r:=List.mem_filter.mpr ⟨hu,by simpa using e⟩
  cases e2:rs.filter fun c=>nA N c==nA N r with
  | nil=>rw [e2] at hf;cases hf
  | cons a l=>
   have:a∈rs.filter fun c=>nA N c==nA N r:=by rw [e2];exact mem_cons_self
   obtain ⟨h1,h2⟩:=List.mem_filter.mp this;exact ⟨h1,by simpa using h2⟩
section
variable {w:Wd} {o:Bool} {N:List Nat} {m:Nat}
theorem BS (ok:w.Ok) (g:CN w o N m) {p:Nat×Nat} (h:lY w N p):∀q∈m6 w N p,lY w N q:=fun q hq=>by
 rcases Kq hq with z | z
 ·obtain ⟨a,ha,rfl⟩:=List.mem_map.mp z
  obtain ⟨h1,h2⟩:=EA (N:=N) (r:=a) (rs:=w.stp p.2) (let ⟨u,hu,e⟩:=g.st p.1 p.2 h.1 h.2.1 h.2.2 a ha;⟨u,hu,e.symm⟩)
  exact ⟨ok.stp_lt ha,ok.stp_lt h1,h2.symm⟩
 ·obtain ⟨a,ha,rfl⟩:=List.mem_map.mp z
  obtain ⟨h1,h2⟩:=EA (N:=N) (r:=a) (rs:=w.stp p.1) (let ⟨u,hu,e⟩:=g.st p.2 p.1 h.2.1 h.1 h.2.2.symm a ha;⟨u,hu,e.symm⟩)
  exact ⟨ok.stp_lt h1,ok.stp_lt ha,h2⟩
theorem EN {ks:List (Nat×Nat)} (h24:w.n<=24) (nd:ks.Nodup) (h:∀x∈ks,lY w N x):ks.length<=576:=by
 have:=fM (L:=v9 w.n) nd fun x hx=>mem_psN.mpr ⟨(h x hx).1,(h x hx).2.1⟩
 unfold v9 at this;rw [GJ] at this;have:w.n*w.n<=24*24:=Nat.mul_le_mul h24 h24
 omega
noncomputable def qE (w:Wd) (N:List Nat) (i j:Nat):List (Nat×Nat):=ua (m6 w N) 2000 ([(i,j)],[(i,j)])
theorem Jm {i j:Nat} (h:lY w N (i,j)):WI (lY w N) (m6 w N) (i,j) ([(i,j)],[(i,j)]):=⟨⟨by simp,fun x hx=>by rw [List.mem_singleton.mp hx];exact h,fun _ z=>z,KA _⟩,List.mem_singleton.mpr rfl,fun x hx=>.inl hx⟩
theorem uJ (ok:w.Ok) (g:CN w o N m) {i j:Nat} (h:lY w N (i,j)):WI (lY w N) (m6 w N) (i,j) (qE w N i j,[]):=
 t9 (M:=576) (fun ks nd hk=>EN ok.h24 nd hk) (fun x hx=>BS ok g hx) 2000 _ (Jm h) (by simp)
end
noncomputable def qu:FS:=(aI (fz (bo aw (aE (eA false) (ae 1) (ae 2))) (bh (ae 1)) bt)
  (bh (ak (aG .leaf 3 (bA (ae 2)) (bo aw (aE eC (ak (ae 0) (ae 3)) (ak (ae 0) (ae 1)))) (ae 3)) (eK (.int 0)))))
noncomputable def cC:List KB->b9:=aQ 4 qu
noncomputable def d_pairs_behind:FS:=(aI (aP false 3 (ak (ak (ae 0) (eK (.int 2))) (ak (ae 2) (eK (.int 0)))))
  (aI (aP false 4 (ak (ak (ae 0) (eK (.int 2))) (ak (ae 2) (eK (.int 1)))))
  (aI (aP false 5 (aG .leaf 6 (bA (ae 3)) aO (cy (aa (ae 6) (aa (ah 3 cC (aa (ae 1) (aa (ae 6) (aa (ae 4) af)))) af)))))
  (bh (uj (ae 5) (aG .leaf 7 (bA (ae 4)) aO (cy (aa (ah 3 cC (aa (ae 1) (aa (ae 7) (aa (ae 3) af)))) (aa (ae 7) af)))))))))
noncomputable def m_pairs_behind:List KB->b9:=aQ 8 d_pairs_behind
end KC
namespace KC.Ap
open PySem PySem.Spec L2 T PySem.SeqAt
open PyProof.Rows hiding St
open KC
variable {l:List Nat}
noncomputable def vc (c:Str):Nat:=letters.idxOf c
theorem Ar:∀a∈letters,∀b∈letters,Ao (.str a) (.str b)=decide (vc a<vc b):=by decide +kernel
theorem As:∀a∈letters,letters.getD (vc a) "a"=a:=by decide +kernel
theorem lix_rise:letters.Pairwise fun a b=>vc a<vc b:=by decide +kernel
theorem iN:∀{a b:List Nat},a.Pairwise (· < ·)->b.Pairwise (· < ·)->(∀x,x∈a↔x∈b)->a=b
 | [],[],_,_,_=>rfl
 | [],y::b,_,_,h=>by have:=(h y).mpr mem_cons_self;cases this
 | x::a,[],_,_,h=>by have:=(h x).mp mem_cons_self;cases this
 | x::a,y::b,ha,hb,h=>by
  obtain ⟨a1,a2⟩:=List.pairwise_cons.mp ha;obtain ⟨b1,b2⟩:=List.pairwise_cons.mp hb;have e:x=y:=by
   rcases Kr ((h x).mp mem_cons_self) with z | z
   ·exact z
   ·rcases Kr ((h y).mpr mem_cons_self) with u | u
    ·exact u.symm
    ·have:=a1 y u
     have:=b1 x z
     omega
  subst e;congr 1
  refine iN a2 b2 fun z=>⟨fun hz=>?_,fun hz=>?_⟩
  ·rcases Kr ((h z).mp (Ku _ hz)) with u | u
   ·have:=a1 z hz;omega
   ·exact u
  ·rcases Kr ((h z).mpr (Ku _ hz)) with u | u
   ·have:=b1 z hz;omega
   ·exact u
theorem eX:∀{l:List Nat},(∀(k:Nat) a b,l[k]?=some a->l[k+1]?=some b->a<b)->l.Pairwise (· < ·)
 | [],_=>.nil
 | [a],_=>by simp
 | a::b::l,h=>by
  have hab:=h 0 a b rfl rfl
  have ih:=eX (l:=b::l) fun k x y e1 e2=>h (k+1) x y (by simpa using e1) (by simpa using e2)
  refine List.pairwise_cons.mpr ⟨fun c hc=>?_,ih⟩
  rcases Kr hc with z | z
  ·rw [z];exact hab
  ·have:=(List.pairwise_cons.mp ih).1 c z
   omega
theorem Ak {w:Wd} (ok:w.Ok) {r:Nat} (hr:r<w.n):(∀c∈w.mks r,c∈letters)/\((w.mks r).map vc).Pairwise (· < ·):=by
 obtain ⟨xs,h1,_,_,h4⟩:=ok.g.m (j9 (w.mks r)) (List.mem_map.mpr ⟨_,(by
  unfold Wd.mks;rw [Kt,Ks (by rw [ok.lm];exact hr)]
  exact getElem_mem _),rfl⟩)
 generalize w.mks r=l at h1 h4
 have h4:((l.map PyData.str).all AE&&dY (l.map PyData.str))=true:=h4
 rw [Bool.and_eq_true] at h4;have hin:∀c∈l,c∈letters:=fun c hc=>by
  have:=List.all_eq_true.mp h4.1 (.str c) (List.mem_map.mpr ⟨c,hc,rfl⟩)
  unfold AE at this;unfold letters;simp only [List.any_cons,List.any_nil,Bool.or_false,Bool.or_eq_true,PyData.eqv,beq_iff_eq] at this
  simp only [mem_cons,not_mem_nil,or_false]
  rcases this with h | h | h | h | h | h<;>simp [<-h]
 refine ⟨hin,eX fun k a b e1 e2=>?_⟩
 have hk:k+1<l.length:=by
  have:=(Kw e2).1
  simpa using this
 have h5:=h4.2
 unfold dY at h5;rw [all_eq_true] at h5;have:=h5 (.int (1+(k:Nat))) (by
  unfold b6;exact List.mem_map.mpr ⟨k,List.mem_range.mpr (by rw [length_map];omega),rfl⟩)
 have:Ao ((l.map PyData.str).getD (1+(k:Int)-1).toNat .none) ((l.map PyData.str).getD (1+(k:Int)).toNat .none)=true:=this
 rw [show (1+(k:Int)-1).toNat=k by omega,show (1+(k:Int)).toNat=k+1 by omega,Kt,Kt,getElem?_map,getElem?_map,Ks (by omega),Ks hk] at this
 have this:Ao (.str l[k]) (.str l[k+1])=true:=this
 rw [Ar _ (hin _ (getElem_mem _)) _ (hin _ (getElem_mem _)),decide_eq_true_eq] at this;rw [getElem?_map,Ks (by omega)] at e1
 rw [getElem?_map,Ks hk] at e2
 cases e1
 cases e2;exact this
theorem mL {w:Wd} (ok:w.Ok) {r:Nat} (hr:r<w.n):∃P:Str->Bool,w.mks r=letters.filter P:=by
 obtain ⟨hin,hri⟩:=Ak ok hr;refine ⟨fun c=>(w.mks r).contains c,?_⟩
 have back:∀l:List Str,(∀c∈l,c∈letters)->(l.map vc).map (fun k=>letters.getD k "a")=l:=fun l hl=>by
  rw [map_map];have:∀c∈l,((fun k=>letters.getD k "a")∘vc) c=id c:=fun c hc=>As c (hl c hc)
  rw [map_congr_left this,List.map_id]
 have e:(w.mks r).map vc=(letters.filter fun c=>(w.mks r).contains c).map vc:=by
  refine iN hri ?_ fun x=>?_
  ·rw [pairwise_map]
   exact lix_rise.filter _
  ·rw [mem_map,mem_map]
   constructor
   ·rintro ⟨c,hc,rfl⟩
    exact ⟨c,List.mem_filter.mpr ⟨hin c hc,List.contains_iff_mem.mpr hc⟩,rfl⟩
   ·rintro ⟨c,hc,rfl⟩
    exact ⟨c,List.contains_iff_mem.mp (List.mem_filter.mp hc).2,rfl⟩
 exact (back _ hin).symm.trans ((congrArg (List.map fun k=>letters.getD k "a") e).trans (back _ fun c hc=>(List.mem_filter.mp hc).1))
inductive xA where
 | mk (c:Str)
 | st (s t:Int)
deriving DecidableEq
noncomputable abbrev Row:=(Nat×Nat)×xA
noncomputable def bX:xA->D
 | .mk c=>.tuple [.str "mark",.str c]
 | .st s t=>.tuple [.str "step",.int s,.int t]
noncomputable def bF (r:Row):D:=.tuple [rm r.1.1,rm r.1.2,bX r.2]
noncomputable def uz (w:Wd) (i j:Nat) (c:Str):Bool:=(w.mks i).contains c != (w.mks j).contains c
noncomputable def fv (w:Wd) (i j s t:Nat):List (Nat×Nat):=if s=0 then (w.stp j).map fun a=>(t,a) else (w.stp i).map fun a=>(a,t)
noncomputable def gB (w:Wd) (K:List (Nat×Nat)) (i j s t:Nat):Bool:=(fv w i j s t).all fun p=>decide (p∈K)
noncomputable def jN (w:Wd) (i j:Nat):List (Nat×Nat):=((w.stp i).map fun t=>(0,t))++(w.stp j).map fun t=>(1,t)
noncomputable def pF (w:Wd) (K:List (Nat×Nat)) (i j:Nat):Option xA:=match letters.find? (uz w i j) with
 | some c=>some (.mk c)
 | none=>((jN w i j).find? fun p=>gB w K i j p.1 p.2).map fun p=>.st (p.1:Int) (p.2:Int)
noncomputable def mJ (w:Wd) (K:List (Nat×Nat)) (p:Nat×Nat):Option Row:=if p∈K then none else (pF w K p.1 p.2).map fun r=>(p,r)
noncomputable def iU (w:Wd) (K:List (Nat×Nat)):List Row:=(v9 w.n).filterMap (mJ w K)
noncomputable def lW (w:Wd):Nat->List Row->List Row
 | 0,known=>known
 | f+1,known=>if (iU w (known.map (·.1))).isEmpty then known else lW w f (known++iU w (known.map (·.1)))
noncomputable def inS (l:List Nat) (t:Int):Bool:=l.any fun a=>(a:Int)==t
noncomputable def cU (w:Wd) (K:List (Nat×Nat)) (r:Row):Bool:=match r.2 with
 | .mk c=>uz w r.1.1 r.1.2 c
 | .st s t=>decide (s=0\/s=1)&&inS (w.stp (if s=0 then r.1.1 else r.1.2)) t&&gB w K r.1.1 r.1.2 s.toNat t.toNat
noncomputable def cu (w:Wd):List (Nat×Nat)->List Row->Bool
 | _,[]=>true
 | K,r::rs=>cU w K r&&cu w (K++[r.1]) rs
section
variable {w:Wd} {K K':List (Nat×Nat)} {i j s t:Nat}
theorem oO {t:Nat}:inS l (t:Int)=true↔t∈l:=by
 unfold inS;rw [any_eq_true];constructor
 ·rintro ⟨a,ha,e⟩
  have:(a:Int)=(t:Int):=by simpa using e
  have:a=t:=by omega
  rw [<-this];exact ha
 ·intro h;exact ⟨t,h,by simp⟩
theorem inS_iff {t:Int}:inS l t=true↔∃a∈l,(a:Int)=t:=by
 unfold inS;rw [any_eq_true];simp
theorem uy (h:∀p∈K,p∈K') (b:gB w K i j s t=true):gB w K' i j s t=true:=by
 unfold gB at b ⊢
 rw [all_eq_true] at b ⊢;exact fun p hp=>decide_eq_true (h p (of_decide_eq_true (b p hp)))
theorem Ho {r:Row} (h:∀p∈K,p∈K') (b:cU w K r=true):cU w K' r=true:=by
 unfold cU at b ⊢
 split at b
 ·exact b
 ·rw [Bool.and_eq_true] at b ⊢
  exact ⟨b.1,uy h b.2⟩
theorem G5 {p:Nat×Nat} (h:p∈jN w i j):(p.1=0/\p.2∈w.stp i)\/(p.1=1/\p.2∈w.stp j):=by
 rcases Kq h with z | z
 ·obtain ⟨a,ha,rfl⟩:=List.mem_map.mp z;exact .inl ⟨rfl,ha⟩
 ·obtain ⟨a,ha,rfl⟩:=List.mem_map.mp z;exact .inr ⟨rfl,ha⟩
theorem pE {r:xA} (h:pF w K i j=some r):cU w K ((i,j),r)=true:=by
 unfold pF at h;split at h
 ·rename_i c e
  cases h;show uz w i j c=true
  exact List.find?_some e
 ·obtain ⟨p,hp,rfl⟩:=Option.map_eq_some_iff.mp h
  have hb:=List.find?_some hp
  have hm:=G5 (List.mem_of_find?_eq_some hp)
  unfold cU;dsimp only;rw [Bool.and_eq_true,Bool.and_eq_true,decide_eq_true_eq,Int.toNat_natCast,Int.toNat_natCast];refine ⟨⟨by rcases hm with z | z<;>omega,?_⟩,hb⟩
  rcases hm with z | z
  ·rw [if_pos (by omega),oO];exact z.2
  ·rw [if_neg (by omega),oO];exact z.2
theorem EO {r:Row} (h:r∈iU w K):r.1.1<w.n/\r.1.2<w.n/\r.1∉K/\cU w K r=true:=by
 obtain ⟨p,hp,e⟩:=List.mem_filterMap.mp h;unfold mJ at e;split at e
 ·cases e
 ·rename_i hn
  obtain ⟨q,hq,rfl⟩:=Option.map_eq_some_iff.mp e;obtain ⟨h1,h2⟩:=mem_psN.mp hp;exact ⟨h1,h2,hn,pE hq⟩
theorem sN {n:Nat}:∀i,(ik n i 0).Nodup
 | 0=>by simp [ik]
 | i+1=>by
  rw [kE];have key:∀j,j<=n->(ik n i j).Nodup:=by
   intro j;induction j with
   | zero=>intro _;exact sN i
   | succ j ih=>
    intro hj;rw [kD];refine List.nodup_append.mpr ⟨ih (by omega),by simp,fun a ha b hb z=>?_⟩
    rw [List.mem_singleton.mp hb] at z;subst z;rcases mem_psT.mp ha with y | y<;>omega
  exact key n (KA _)
theorem wz:(iU w K).map (·.1)=((v9 w.n).filter fun p=>(mJ w K p).isSome):=by
 unfold iU;generalize v9 w.n=L
 induction L with
 | nil=>rfl
 | cons p L ih=>
  rw [filterMap_cons,filter_cons]
  cases e:mJ w K p with
  | none=>simp [ih]
  | some r=>
   have:r.1=p:=by
    unfold mJ at e;split at e
    ·cases e
    ·obtain ⟨q,_,rfl⟩:=Option.map_eq_some_iff.mp e;rfl
   simp [ih,this]
theorem Ag:((iU w K).map (·.1)).Nodup:=by
 rw [wz];exact List.Nodup.sublist List.filter_sublist (sN w.n)
structure KI (w:Wd) (known:List Row):Prop where
 nd:(known.map (·.1)).Nodup
 lt:∀r∈known,r.1.1<w.n/\r.1.2<w.n
 ok:∀(k:Nat) r,known[k]?=some r->cU w ((known.take k).map (·.1)) r=true
theorem KI.nil:KI w []:=⟨nodup_nil,(fun _ z=>nomatch z),fun k r e=>by simp at e⟩
theorem KI.step {known:List Row} (h:KI w known):KI w (known++iU w (known.map (·.1))):=by
 refine ⟨?_,fun r hr=>?_,fun k r e=>?_⟩
 ·rw [map_append]
  refine List.nodup_append.mpr ⟨h.nd,Ag,fun a ha b hb z=>?_⟩
  obtain ⟨r,hr,rfl⟩:=List.mem_map.mp hb;rw [z] at ha;exact (EO hr).2.2.1 ha
 ·rcases Kq hr with z | z
  ·exact h.lt r z
  ·exact ⟨(EO z).1,(EO z).2.1⟩
 ·by_cases hk:k<known.length
  ·rw [getElem?_append_left hk] at e
   rw [List.take_append_of_le_length (by omega)]
   exact h.ok k r e
  ·rw [getElem?_append_right (by omega)] at e
   have hm:=mem_of_getElem? e
   refine Ho (fun p hp=>?_) (EO hm).2.2.2
   rw [List.take_append,map_append];exact Kp _ (by rw [take_of_length_le (by omega)];exact hp)
theorem KI.len {known:List Row} (h:KI w known) (h24:w.n<=24):known.length<=576:=by
 have:=fM (L:=v9 w.n) h.nd fun x hx=>by
  obtain ⟨r,hr,rfl⟩:=List.mem_map.mp hx;exact mem_psN.mpr (h.lt r hr)
 rw [length_map] at this;unfold v9 at this;rw [GJ] at this;have:w.n*w.n<=24*24:=Nat.mul_le_mul h24 h24
 omega
theorem o5 (h24:w.n<=24):∀(f:Nat) (known:List Row),KI w known->576-known.length<f->KI w (lW w f known)/\iU w ((lW w f known).map (·.1))=[]
 | 0,_,_,h=>absurd h (Nat.not_lt_zero _)
 | f+1,known,I,h=>by
  unfold lW;split
  ·rename_i e
   exact ⟨I,List.isEmpty_iff.mp e⟩
  ·rename_i e
   refine o5 h24 f _ I.step ?_
   have:=I.step.len h24
   have:0<(iU w (known.map (·.1))).length:=by
    cases q:iU w (known.map (·.1)) with
    | nil=>rw [q] at e;exact absurd rfl e
    | cons a b=>simp
   rw [length_append] at *;omega
theorem lz (ok:w.Ok) (hK:∀p∈K,¬Lk w false p.1 p.2) {r:Row} (h1:r.1.1<w.n) (h2:r.1.2<w.n) (b:cU w K r=true):¬Lk w false r.1.1 r.1.2:=by
 rintro ⟨R,rt,hR⟩
 have sm:=rt.sm _ _ h1 h2 hR
 unfold nO at sm;rw [Bool.and_eq_true] at sm;have em:w.mks r.1.1=w.mks r.1.2:=by simpa using sm.1
 unfold cU at b;split at b
 ·unfold uz at b
  rw [em] at b;simp at b
 ·rename_i s t e
  rw [Bool.and_eq_true,Bool.and_eq_true,decide_eq_true_eq] at b;obtain ⟨⟨hs,ht⟩,hb⟩:=b;obtain ⟨a,ha,rfl⟩:=inS_iff.mp ht;rw [Int.toNat_natCast] at hb;unfold gB at hb;rw [all_eq_true] at hb;rcases hs with rfl | rfl
  ·rw [if_pos rfl] at ha
   obtain ⟨u,hu,hRu⟩:=rt.fo _ _ h1 h2 hR a ha;have:=of_decide_eq_true (hb (a,u) (by unfold fv;rw [if_pos (show Int.toNat 0=0 from rfl)];exact List.mem_map.mpr ⟨u,hu,rfl⟩))
   exact hK _ this ⟨R,rt,hRu⟩
  ·rw [if_neg (by decide)] at ha
   obtain ⟨u,hu,hRu⟩:=rt.ba _ _ h1 h2 hR a ha;have:=of_decide_eq_true (hb (u,a) (by unfold fv;rw [if_neg (by decide)];exact List.mem_map.mpr ⟨u,hu,rfl⟩))
   exact hK _ this ⟨R,rt,hRu⟩
theorem KI.unlike (ok:w.Ok) {known:List Row} (I:KI w known):∀p∈known.map (·.1),¬Lk w false p.1 p.2:=by
 have key:∀k,k<=known.length->∀p∈(known.take k).map (·.1),¬Lk w false p.1 p.2:=by
  intro k;induction k with
  | zero=>intro _ p hp;simp at hp
  | succ k ih=>
   intro hk p hp;have e:known[k]?=some known[k]:=Ks (by omega)
   rw [take_succ,e,map_append] at hp;rcases Kq hp with z | z
   ·exact ih (by omega) p z
   ·have:p=known[k].1:=by simpa using z
    rw [this];obtain ⟨a,b⟩:=I.lt _ (getElem_mem (by omega:k<known.length))
    exact lz ok (ih (by omega)) a b (I.ok k _ e)
 intro p hp;exact key known.length (KA _) p (by rw [take_length];exact hp)
theorem tF (ok:w.Ok) (hi:i<w.n) (hj:j<w.n) (h:∀c∈letters,(w.mks i).contains c=(w.mks j).contains c):w.mks i=w.mks j:=by
 have sub:∀{r},r<w.n->∃P:Str->Bool,w.mks r=letters.filter P:=fun {r} hr=>mL ok hr
 obtain ⟨P,eP⟩:=sub hi;obtain ⟨P',eP'⟩:=sub hj;rw [eP,eP'];refine List.filter_congr fun c hc=>?_
 have:=h c hc
 rw [eP,eP',Bool.eq_iff_iff,contains_iff_mem,contains_iff_mem,List.mem_filter,List.mem_filter] at this;rw [Bool.eq_iff_iff];exact ⟨fun z=>(this.mp ⟨hc,z⟩).2,fun z=>(this.mpr ⟨hc,z⟩).2⟩
theorem qC (ok:w.Ok) (h:iU w K=[]) (hi:i<w.n) (hj:j<w.n) (hn:(i,j)∉K):Lk w false i j:=by
 have no:∀a b,a<w.n->b<w.n->(a,b)∉K->pF w K a b=none:=fun a b ha hb hab=>by
  have h0:mJ w K (a,b)=none:=by
   have:=List.filterMap_eq_nil_iff.mp h (a,b) (mem_psN.mpr ⟨ha,hb⟩)
   exact this
  unfold mJ at h0;rw [if_neg hab] at h0;exact Option.map_eq_none_iff.mp h0
 have nb:∀a b,a<w.n->b<w.n->(a,b)∉K->∀p∈jN w a b,¬gB w K a b p.1 p.2=true:=fun a b ha hb hab=>by
  have h1:=no a b ha hb hab
  unfold pF at h1;split at h1
  ·cases h1
  ·exact List.find?_eq_none.mp (Option.map_eq_none_iff.mp h1)
 refine ⟨fun a b=>a<w.n/\b<w.n/\(a,b)∉K,⟨fun a b ha hb hab=>?_,fun a b ha hb hab t ht=>?_,fun a b ha hb hab t ht=>?_⟩,hi,hj,hn⟩
 ·have h1:=no a b ha hb hab.2.2
  unfold pF at h1;split at h1
  ·cases h1
  ·rename_i e
   have e2:w.mks a=w.mks b:=tF ok ha hb fun c hc=>by
    have:=List.find?_eq_none.mp e c hc
    unfold uz at this;simpa using this
   unfold nO;rw [e2];simp
 ·refine Classical.byContradiction fun z=>nb a b ha hb hab.2.2 (0,t) (Kp _ (List.mem_map.mpr ⟨t,ht,rfl⟩)) ?_
  show gB w K a b 0 t=true
  unfold gB fv;rw [if_pos rfl,all_eq_true];intro p hp;obtain ⟨u,hu,rfl⟩:=List.mem_map.mp hp;exact decide_eq_true (Classical.byContradiction fun y=>z ⟨u,hu,ok.stp_lt ht,ok.stp_lt hu,y⟩)
 ·refine Classical.byContradiction fun z=>nb a b ha hb hab.2.2 (1,t) (Ko _ (List.mem_map.mpr ⟨t,ht,rfl⟩)) ?_
  show gB w K a b 1 t=true
  unfold gB fv;rw [if_neg (by decide),all_eq_true]
  intro p hp;obtain ⟨u,hu,rfl⟩:=List.mem_map.mp hp;exact decide_eq_true (Classical.byContradiction fun y=>z ⟨u,hu,ok.stp_lt hu,ok.stp_lt ht,y⟩)
end
noncomputable def m7 (w:Wd) (r:Row):List (Nat×Nat):=match r.2 with
 | .mk _=>[]
 | .st s t=>fv w r.1.1 r.1.2 s.toNat t.toNat
noncomputable def fJ (known:List Row) (p:Nat×Nat):Row:=(known.find? fun r=>decide (r.1=p)).getD (p,.mk "a")
noncomputable def bQ (w:Wd):List Row:=lW w 1000 []
noncomputable def mK (w:Wd) (i j:Nat):List (Nat×Nat):=ua (fun p=>m7 w (fJ (bQ w) p)) 2000 ([(i,j)],[(i,j)])
noncomputable def va (w:Wd) (i j:Nat):List Row:=(bQ w).filter fun r=>decide (r.1∈mK w i j)
section
variable {w:Wd} {i j:Nat}
theorem xH (ok:w.Ok):KI w (bQ w)/\iU w ((bQ w).map (·.1))=[]:=o5 ok.h24 1000 [] KI.nil (by simp)
theorem oH (ok:w.Ok) (hi:i<w.n) (hj:j<w.n):(i,j)∈(bQ w).map (·.1)↔¬Lk w false i j:=by
 obtain ⟨I,e⟩:=xH ok;exact ⟨fun h=>I.unlike ok _ h,fun h=>Classical.byContradiction fun z=>h (qC ok e hi hj z)⟩
theorem Hf {known:List Row} (nd:(known.map (·.1)).Nodup) {k:Nat} {r:Row} (h:known[k]?=some r):fJ known r.1=r:=by
 unfold fJ;have:(known.find? fun r'=>decide (r'.1=r.1))=some r:=by
  induction known generalizing k with
  | nil=>simp at h
  | cons a l ih=>
   rw [map_cons,List.nodup_cons] at nd;rw [find?_cons]
   cases k with
   | zero=>
    have:a=r:=by simpa using h
    subst this;simp
   | succ k=>
    have hk:l[k]?=some r:=by simpa using h
    have ne:a.1≠r.1:=fun e=>nd.1 (by rw [e];exact List.mem_map.mpr ⟨r,mem_of_getElem? hk,rfl⟩)
    rw [decide_eq_false ne];exact ih nd.2 hk
 rw [this];rfl
theorem uA {K:List (Nat×Nat)} {r:Row} (b:cU w K r=true):∀q∈m7 w r,q∈K:=fun q hq=>by
 unfold cU at b;unfold m7 at hq;split at b
 ·rename_i c e;rw [e] at hq;cases hq
 ·rename_i s t e
  rw [e] at hq;rw [Bool.and_eq_true] at b;have h:=b.2
  unfold gB at h;rw [all_eq_true] at h;exact of_decide_eq_true (h q hq)
noncomputable def gy (known:List Row) (k:Nat) (p:Nat×Nat):Prop:=∃m r,m<=k/\known[m]?=some r/\r.1=p
theorem B5 {known:List Row} (I:KI w known) {k:Nat}:∀p,gy known k p->∀q∈m7 w (fJ known p),gy known k q:=by
 rintro p ⟨m,r,hm,e,rfl⟩ q hq
 rw [Hf I.nd e] at hq;have:=uA (I.ok m r e) q hq
 obtain ⟨r',hr',rfl⟩:=List.mem_map.mp this;obtain ⟨m',hm',e'⟩:=getElem_of_mem hr'
 rw [length_take] at hm';rw [List.getElem_take] at e';exact ⟨m',r',by omega,by rw [Ks (by omega),e'],rfl⟩
theorem Aj (ok:w.Ok) {k:Nat} {r0:Row} (h0:(bQ w)[k]?=some r0) (e0:r0.1=(i,j)):WI (gy (bQ w) k) (fun p=>m7 w (fJ (bQ w) p)) (i,j) (mK w i j,[]):=by
 obtain ⟨I,_⟩:=xH ok;have hB:gy (bQ w) k (i,j):=⟨k,r0,KA _,h0,e0⟩
 refine t9 (M:=576) (fun ks nd hk=>?_) (fun x hx=>B5 I x hx) 2000 _ ⟨⟨by simp,fun x hx=>by rw [List.mem_singleton.mp hx];exact hB,fun _ z=>z,KA _⟩,List.mem_singleton.mpr rfl,fun x hx=>.inl hx⟩ (by simp)
 have:=fM (L:=(bQ w).map (·.1)) nd fun x hx=>by
  obtain ⟨m,r,_,e,rfl⟩:=hk x hx;exact List.mem_map.mpr ⟨r,mem_of_getElem? e,rfl⟩
 rw [length_map] at this;have:=I.len ok.h24
 omega
theorem fR {S:Nat×Nat->Bool}:∀{rest:List Row} {K:List (Nat×Nat)},cu w K rest=true->(∀r∈rest,S r.1=true->∀q∈m7 w r,S q=true)->cu w (K.filter S) (rest.filter fun r=>S r.1)=true
 | [],K,_,_=>rfl
 | r::rest,K,h,cl=>by
  unfold cu at h;rw [Bool.and_eq_true] at h;have ih:=fR (S:=S) h.2 fun r' hr'=>cl r' (Ku _ hr')
  rw [filter_append] at ih;rw [filter_cons]
  cases e:S r.1 with
  | false=>
   rw [show [r.1].filter S=[] by simp [e],append_nil] at ih
   exact ih
  | true=>
   rw [show [r.1].filter S=[r.1] by simp [e]] at ih
   rw [if_pos rfl,cu,Bool.and_eq_true];refine ⟨?_,ih⟩
   have h1:=h.1
   have hin:=uA h1
   have hcl:=cl r mem_cons_self e
   unfold cU at h1 ⊢
   unfold m7 at hin hcl;split at h1
   ·exact h1
   ·rename_i s t e2
    rw [e2] at hin hcl
    rw [Bool.and_eq_true] at h1 ⊢;refine ⟨h1.1,?_⟩
    unfold gB;rw [all_eq_true];exact fun q hq=>decide_eq_true (List.mem_filter.mpr ⟨hin q hq,hcl q hq⟩)
theorem KI.hold {known:List Row} (I:KI w known):cu w [] known=true:=by
 have key:∀(rest pre:List Row),known=pre++rest->cu w (pre.map (·.1)) rest=true:=by
  intro rest;induction rest with
  | nil=>intro _ _;rfl
  | cons r rest ih=>
   intro pre e;unfold cu;rw [Bool.and_eq_true];refine ⟨?_,?_⟩
   ·have:=I.ok pre.length r (by rw [e,getElem?_append_right (KA _),Nat.sub_self];rfl)
    rw [e,List.take_left] at this;exact this
   ·have:=ih (pre++[r]) (by rw [e];simp)
    rw [map_append] at this;exact this
 exact key known [] rfl
theorem rP (ok:w.Ok) (h:(i,j)∈(bQ w).map (·.1)):cu w [] (va w i j)=true/\(∀r∈va w i j,r.1.1<w.n/\r.1.2<w.n)/\(va w i j).length<=576/\∃pre r,va w i j=pre++[r]/\r.1=(i,j):=by
 obtain ⟨I,_⟩:=xH ok;obtain ⟨r0,hr0,e0⟩:=List.mem_map.mp h;obtain ⟨k,hk,ek⟩:=getElem_of_mem hr0;have h0:(bQ w)[k]?=some r0:=by rw [Ks hk,ek]
 have W:=Aj ok h0 e0
 have cl:∀p∈mK w i j,∀q∈m7 w (fJ (bQ w) p),q∈mK w i j:=fun p hp=>(W.cl p hp).resolve_left nofun
 have hf:=fR (S:=fun p=>decide (p∈mK w i j)) I.hold fun r hr hS q hq=>by
  obtain ⟨m,hm,em⟩:=getElem_of_mem hr;have er:=Hf I.nd (k:=m) (r:=r) (by rw [Ks hm,em])
  exact decide_eq_true (cl r.1 (of_decide_eq_true hS) q (by rw [er];exact hq))
 refine ⟨hf,fun r hr=>I.lt r (List.mem_filter.mp hr).1,Nat.le_trans (length_filter_le _ _) (I.len ok.h24),(va w i (j)).dropLast,r0,?_,e0⟩
 have split:bQ w=(bQ w).take k++r0::(bQ w).drop (k+1):=by
  rw [<-ek,<-drop_eq_getElem_cons hk,take_append_drop]
 have e1:va w i j=((bQ w).take k).filter (fun r=>decide (r.1∈mK w i j))++[r0]:=by
  unfold va;conv=>lhs;rw [split]
  rw [filter_append,filter_cons,if_pos (decide_eq_true (by rw [e0];exact W.a0))]
  have:((bQ w).drop (k+1)).filter (fun r=>decide (r.1∈mK w i j))=[]:=List.filter_eq_nil_iff.mpr fun r hr hS=>by
   obtain ⟨m,hm,em⟩:=getElem_of_mem hr;rw [List.getElem_drop] at em;rw [List.length_drop] at hm;obtain ⟨m',r',hm',e',er'⟩:=W.b.ok _ (of_decide_eq_true hS);have h1:=(Kw e').1
   have h2:=(Kw e').2
   have:=(List.getElem_inj (xs:=(bQ w).map (·.1)) (i:=m') (j:=k+1+m) (h₀:=by rw [length_map];omega) (h₁:=by rw [length_map];omega) I.nd).mp (by rw [getElem_map,getElem_map,h2,em];exact er')
   omega
  rw [this]
 rw [e1,List.dropLast_concat]
end
end KC.Ap
namespace KC
open PySem PySem.Spec L2 T PySem.SeqAt
open PyProof.Rows hiding St
variable {a:Nat} {b:Addr} {ob:HO} {sh:List Bool} {kvs:List (List T.It×V)} {x8:Option V} {o:Bool}
theorem Kg {b:Nat}:eC (rm a) (rm b)=some (.bool (a==b)):=by
 show eC (.int (a:Int)) (.int (b:Int))=_
 rw [KC.eq_int];congr 2
 rw [Bool.eq_iff_iff];simp only [beq_iff_eq]
 omega
theorem neN {b:Nat}:iw (rm a) (rm b)=some (.bool (!(a==b))):=by
 show iw (.int (a:Int)) (.int (b:Int))=_
 rw [KC.ne_int];congr 3
 rw [Bool.eq_iff_iff];simp only [beq_iff_eq]
 omega
theorem fS {N:List Nat} {r:Nat} {rs:List Nat} (hr:r<N.length) (hrs:∀t∈rs,t<N.length) (hl:rs.length<=900) (h:∃u∈rs,nA N u=nA N r):cC [bG N,rm r,bG rs]=.ok ⟨.leaf,rm (mD N r rs)⟩:=by
 have t:=dt (s:=.leaf) (aB (g:=eA false) (aj (Γ:=bO 4 [bG N,rm r,bG rs]) (i:=1) (d:=rm r) rfl) (aj (i:=2) (d:=bG rs) rfl) AC)
 cases e:rs.contains r with
 | true=>
  rw [e] at t;have:mD N r rs=r:=by unfold mD;rw [if_pos (List.contains_iff_mem.mp e)]
  rw [this];exact bj (yO (bU t (fun _=>aW (aj (i:=1) rfl) rfl) nofun))
 | false=>
  rw [e] at t;have hn:r∉rs:=fun z=>by rw [List.contains_iff_mem.mpr z] at e;cases e
  have c:=lE (Γ:=bO 4 [bG N,rm r,bG rs]) (s:=.leaf) (i:=3) (fi:=bA (ae 2)) (fc:=bo aw (aE eC (ak (ae 0) (ae 3)) (ak (ae 0) (ae 1)))) (fe:=ae 3) rm rs (fun c=>nA N c==nA N r) (fun t=>⟨.leaf,rm t⟩) (st:=true) (cM (s:=.leaf) (aj rfl) rfl) (by simp [bO]) rfl (by omega) (fun x hx=>dt (s:=.leaf) (aB (iX rfl (aj rfl) (hrs x hx)) (iX rfl (aj rfl) hr) Kg)) (fun x hx _=>⟨aj rfl,rfl⟩)
  obtain ⟨u,hu,eu⟩:=h;have hf:u∈rs.filter fun c=>nA N c==nA N r:=List.mem_filter.mpr ⟨hu,by simpa using eu⟩
  cases e2:rs.filter fun c=>nA N c==nA N r with
  | nil=>rw [e2] at hf;cases hf
  | cons a l=>
   rw [e2] at c;have:mD N r rs=a:=by unfold mD;rw [if_neg hn,e2];rfl
   rw [this];exact bj (az (bU t nofun fun _=>rfl) (aW (xN (j:=0) c (aK (d:=.int 0)) (by rw [map_cons,length_cons];exact EJ (k:=0) (by omega)) rfl rfl) rfl))
section
variable {w:Wd} {o:Bool} {N:List Nat} {m:Nat}
theorem nM (ok:w.Ok) {r:Nat} (hr:r<w.n):(w.stp r).length<=30:=by
 have:w.stp r∈w.s:=by
  unfold Wd.stp;rw [Kt,Ks (by rw [ok.ls];exact hr)]
  exact getElem_mem _
 exact (ok.st _ this).2.1
theorem AY (ok:w.Ok) (g:CN w o N m) {p:Nat×Nat} (h:lY w N p):m_pairs_behind [w.enc,bG N,bY p]=.ok ⟨.lst .leaf,.list ((m6 w N p).map bY)⟩:=by
 obtain ⟨h1,h2,h3⟩:=h;have hl:=g.len
 have l1:=nM ok h1
 have l2:=nM ok h2
 have lt:∀{r t},t∈w.stp r->t<N.length:=fun ht=>by rw [hl];exact ok.stp_lt ht
 have a1:=xR ok (Γ:=bO 8 [w.enc,bG N,bY p]) (i:=0) (fb:=ak (ae 2) (eK (.int 0))) (s:=.leaf) (r:=p.1) rfl (dq (j:=0) (ds:=[rm p.1,rm p.2]) (aj (i:=2) rfl) (aK (d:=.int 0)) rfl rfl rfl) h1
 have a2:=xR ok (Γ:=(bO 8 [w.enc,bG N,bY p]).set 3 (KD (bG (w.stp p.1)))) (i:=0) (fb:=ak (ae 2) (eK (.int 1))) (s:=.leaf) (r:=p.2) rfl (dq (j:=1) (ds:=[rm p.1,rm p.2]) (aj (i:=2) rfl) (aK (d:=.int 1)) rfl rfl rfl) h2
 have c1:=u5 (Γ:=((bO 8 [w.enc,bG N,bY p]).set 3 (KD (bG (w.stp p.1)))).set 4 (KD (bG (w.stp p.2)))) (s:=.leaf) (i:=6) (fi:=bA (ae 3)) (fe:=cy (aa (ae 6) (aa (ah 3 cC (aa (ae 1) (aa (ae 6) (aa (ae 4) af)))) af))) rm (w.stp p.1) (fun a=>⟨.tup [.leaf,.leaf],bY (a,mD N a (w.stp p.2))⟩) (st:=true) (cM (s:=.leaf) (aj rfl) rfl) (by simp [bO]) rfl (by omega)
  fun a ha=>⟨de (ar (aj (i:=6) rfl) (ar (bR (ar (aj (i:=1) rfl) (ar (aj (i:=6) rfl) (ar (aj (i:=4) rfl) ag))) (fS (lt ha) (fun t ht=>lt ht) (by omega) (let ⟨u,hu,e⟩:=g.st p.1 p.2 h1 h2 h3 a ha;⟨u,hu,e.symm⟩)) rfl rfl) ag)) rfl rfl,rfl⟩
 have c2:=u5 (Γ:=(((bO 8 [w.enc,bG N,bY p]).set 3 (KD (bG (w.stp p.1)))).set 4 (KD (bG (w.stp p.2)))).set 5 (KD (.list ((w.stp p.1).map fun a=>bY (a,mD N a (w.stp p.2)))))) (s:=.leaf) (i:=7) (fi:=bA (ae 4)) (fe:=cy (aa (ah 3 cC (aa (ae 1) (aa (ae 7) (aa (ae 3) af)))) (aa (ae 7) af))) rm (w.stp p.2) (fun b=>⟨.tup [.leaf,.leaf],bY (mD N b (w.stp p.1),b)⟩) (st:=true) (cM (s:=.leaf) (aj rfl) rfl) (by simp [bO]) rfl (by omega)
  fun b hb=>⟨de (ar (bR (ar (aj (i:=1) rfl) (ar (aj (i:=7) rfl) (ar (aj (i:=3) rfl) ag))) (fS (lt hb) (fun t ht=>lt ht) (by omega) (let ⟨u,hu,e⟩:=g.st p.2 p.1 h2 h1 h3.symm b hb;⟨u,hu,e.symm⟩)) rfl rfl) (ar (aj (i:=7) rfl) ag)) rfl rfl,rfl⟩
 have eb:(m6 w N p).map bY=((w.stp p.1).map fun a=>bY (a,mD N a (w.stp p.2)))++(w.stp p.2).map fun b=>bY (mD N b (w.stp p.1),b):=by
  unfold m6;rw [map_append,map_map,map_map];rfl
 rw [eb];exact bj (az (fx a1 rfl (by simp [bO])) (az (fx a2 rfl (by simp [bO])) (az (fx c1 rfl (by simp [bO])) (aW (Co (aj (i:=5) rfl) c2 rfl rfl (by simp;omega)) rfl))))
end
noncomputable abbrev hV:List Str:=["world", "one", "other", "owned", "numbers", "pairs", "waiting", "pair", "needed"]
noncomputable abbrev yc (a b:Nat):TE:=jq (ao (ai a) (ao (ai b) bb))
noncomputable def FG (K:Fg):TT:=fun U H Q=>ai 6 U H fun x H'=>∃k,uM K x H' k/\Q k H'
noncomputable abbrev JL:F1:=ah 3 m_pairs_behind (aa (ae 0) (aa (ae 4) (aa (ae 7) af)))
noncomputable def Cs (P:Program) (w:World) (K:Fg):L2.TS:=eN (tB (B9 P w K (ai 8) (ai 5))) (aS (nR P w K (ai 5) (ai 8) (tC (.bl true))) (df (FJ K "list" ET (ai 6) (ao (ai 8) bb)))) cN
noncomputable def Jq (P:Program) (w:World) (K:Fg):L2.TS:=aS (b5 (zg K "list" zK (ai 6)) (av 7)) (cT (bf K (tE K W0 JL)) (av 8) (Cs P w K))
noncomputable def FK (P:Program) (w:World) (K:Fg):L2.TS:=aS (df (tE K W0 (ah 1 ay (aa (ae 0) af))))
 (aS (df (tE K W0 (ah 2 aA (aa (ae 0) (aa (ae 1) af)))))
 (aS (df (tE K W0 (ah 2 aA (aa (ae 0) (aa (ae 2) af)))))
 (aS (b5 (tE K W0 (ah 2 aM (aa (ae 0) (aa (ae 3) af)))) (av 4))
 (aS (eN (tT K W0 (bo aw (aE iw (ak (ae 4) (ae 1)) (ak (ae 4) (ae 2))))) (cE (tC .non)) cN)
 (aS (b5 (jr P w K [false,false] (yc 1 2) (tC (.bl true))) (av 5))
 (aS (b5 (pj (ao (yc 1 2) bb)) (av 6))
 (aS (xK (FG K) (Jq P w K))
 (cE (jV (kB P w K) (ao (ai 5) bb))))))))))
noncomputable abbrev pv (p:Nat×Nat):List V:=[.int (p.1:Int),.int (p.2:Int)]
noncomputable abbrev kT:Nat->Nat->Bool:=fun _ _=>true
theorem hid_upd {H:Hp} {O:List Addr} {a:Addr} (h:a∈O):aC (upd H a ob) O=aC H O:=by
 funext b
 unfold aC;split
 ·rfl
 ·rename_i nb
  exact bw fun z=>nb (by rw [z];exact h)
theorem sO {K:Fg} {H:Hp} {p:Nat×Nat} (h:SqT K H b (pv p)):Rep K H (.ref b) (bY p):=.tup h rfl fun i v d h1 h2=>by
 match i,h1,h2 with
 | 0,h1,h2=>cases h1;cases h2;exact .int _
 | 1,h1,h2=>cases h1;cases h2;exact .int _
 | i+2,h1,h2=>cases h1
theorem tP {ks:List (Nat×Nat)} {q:Nat×Nat}:gA ks kT++[(ky q.1 q.2,.bl true)]=gA (ks++[q]) kT:=by
 unfold gA;rw [map_append];rfl
theorem tQ {ks:List (Nat×Nat)} {q:Nat×Nat}:(cg (gA ks kT) (ky q.1 q.2)).isSome=decide (q∈ks):=by
 by_cases h:q∈ks
 ·rw [Ez (i:=q.1) (j:=q.2) h,decide_eq_true h];rfl
 ·rw [B3 (i:=q.1) (j:=q.2) h,decide_eq_false h];rfl
structure IK (P:Program) (w:World) (K:Fg) (He:Hp) (O:List Addr) (d l:Addr) (H:Hp) (p:List (Nat×Nat)×List (Nat×Nat)):Prop where
 s:Same He H
 hD:D2H P w K H O [false,false] d (gA p.1 kT)
 bs:∃bs:List Addr,H l=some (.lst (bs.map V.ref))/\bs.length=p.2.length/\∀(k:Nat) b q,bs[k]?=some b->p.2[k]?=some q->SqT K (aC H (d::l::O)) b (pv q)
section
variable {P:Program} {w:World} {K:Fg} {He H H':Hp} {O:List Addr} {d l:Addr} {p:List (Nat×Nat)×List (Nat×Nat)}
theorem sub2:∀a∈O,a∈d::l::O:=fun a h=>Ku _ (Ku _ h)
theorem D2H.grow (x:D2H P w K H O sh d kvs) (s:Same H H'):D2H P w K H' O sh d kvs:=let ⟨xs,h1,h2,h3⟩:=x;⟨xs,s _ _ h1,h2.mono fun c xs=>aV (dW s fun a h=>.inl h),h3⟩
theorem IK.grow (I:IK P w K He O d l H p) (s:Same H H'):IK P w K He O d l H' p:=⟨I.s.trans s,D2H.grow I.hD s,let ⟨bs,h1,h2,h3⟩:=I.bs;⟨bs,s _ _ h1,h2,fun k b q a c=>aV (dW s fun a h=>.inl h) (h3 k b q a c)⟩⟩
theorem D2H.ext (x:D2H P w K H O sh d kvs):∃φ,H d=some (.ext φ):=let ⟨_,h,_⟩:=x;⟨_,h⟩
theorem D2H.updL {xs:List V} (x:D2H P w K H O sh d kvs) (hl:H l=some (.lst xs)):D2H P w K (upd H l ob) O sh d kvs:=by
 obtain ⟨φ,hφ⟩:=D2H.ext x;refine D2H.mono x (bw fun z=>by rw [z,hl] at hφ;cases hφ) fun c ys h=>GS (fun vs z=>by rw [hl] at z;cases z) (fun vs o z=>by rw [hl] at z;cases z) h
theorem yh {wd:Wd} {N:List Nat} {q:Nat×Nat} {U:St} {D:cJ} (I:IK P w K He O d l H p) (hd0:He d=none) (hl0:He l=none) (h5:U[5]?=some (some (.ref d))) (h6:U[6]?=some (some (.ref l))) (h8:U[8]?=some (some (.ref b))) (hb:SqT K (aC H (d::l::O)) b (pv q)) (h1:p.1.length<1000) (h2:p.2.length<1000)
  (hq:∀H',aC H' (d::l::O)=aC H (d::l::O)->IK P w K He O d l H' (vA p q)->D.nx U H'):Cs P w K D U H:=by
 have hbz:(1000:Nat)<=sizeLine:=by decide
 have hb1:SqT K (aC H O) b (pv q):=aV (GA sub2) hb
 have k2:K2 K (aC H O) (ky q.1 q.2) b:=⟨_,hb1,.cons rfl (.cons rfl .nil)⟩
 refine ⟨.ref b,h8,.ref d,h5,d,b,[false,false],_,ky q.1 q.2,rfl,rfl,I.hD.d,k2.mono (fun c xs=>aV hid_le),rfl,_,rfl,?_⟩
 rw [tQ];by_cases hin:q∈p.1
 ·rw [decide_eq_true hin]
  refine cn (hq H rfl ?_)
  unfold vA;rw [if_pos hin];exact I
 ·rw [decide_eq_false hin]
  obtain ⟨bs,e1,e2,e3⟩:=I.bs;obtain ⟨φ,hφ⟩:=D2H.ext I.hD;have hdl:d≠l:=fun z=>by rw [z,e1] at hφ;cases hφ
  have hn:cg (gA p.1 kT) (ky q.1 q.2)=none:=B3 hin
  refine ck ⟨.ref d,h5,.ref b,h8,d,b,[false,false],_,ky q.1 q.2,O,rfl,rfl,I.hD,k2,rfl,by rw [GF];exact h1,hn,fun ob hD=>?_⟩
  rw [tP] at hD;have el:upd H d ob l=some (.lst (bs.map V.ref)):=by rw [bw (Ne.symm hdl)];exact e1
  refine ⟨.ref l,h6,.inl ⟨rfl,_,.of el⟩,.ref b,h8,l,bs.map V.ref,.ref b,rfl,rfl,el,by rw [length_map,e2];omega,hq _ (by rw [hid_upd (by simp),hid_upd (by simp)]) ?_⟩
  unfold vA;rw [if_neg hin];refine ⟨fun c o hc=>?_,D2H.updL hD el,bs++[b],by rw [bL,map_append];rfl,by simp [e2],fun k c r a1 a2=>?_⟩
  ·rw [bw (fun z=>by subst z;rw [hl0] at hc;cases hc),bw (fun z=>by subst z;rw [hd0] at hc;cases hc)]
   exact I.s c o hc
  ·rw [hid_upd (by simp),hid_upd (by simp)]
   by_cases hk:k<bs.length
   ·rw [getElem?_append_left hk] at a1
    rw [getElem?_append_left (by omega)] at a2
    exact e3 k c r a1 a2
   ·rw [getElem?_append_right (by omega)] at a1
    rw [getElem?_append_right (by omega)] at a2
    have:k-bs.length=0:=by
     have:=(Kw a1).1
     simp at this
     omega
    rw [this] at a1;rw [<-e2,this] at a2
    cases a1
    cases a2;exact hb
end
noncomputable abbrev sk (v0 v4:V) (i j:Nat) (o:Bool) (d l:Addr) (x7 x8:Option V):St:=[some v0,some (.int (i:Int)),some (.int (j:Int)),some (.bl o),some v4,some (.ref d),some (.ref l),x7,x8]
noncomputable abbrev Gb (wd:Wd) (o:Bool) (i j:Nat) (N:List Nat) (x7:Option PV):Ev:=[KD wd.enc,KD (rm i),KD (rm j),KD (.bool o),KD (bG N),none,none,x7,none]
noncomputable abbrev Jd (wd:Wd) (o:Bool) (i j:Nat):Ev:=[KD wd.enc,KD (rm i),KD (rm j),KD (.bool o),none,none,none,none,none]
section
variable {P:Program} {w:World} {K:Fg} {He H H':Hp} {O:List Addr} {d l:Addr} {p:List (Nat×Nat)×List (Nat×Nat)} {wd:Wd} {o:Bool} {N:List Nat} {m i j:Nat} {v0 v4:V}
theorem vO {q:Nat×Nat} {D:cJ} (ok:wd.Ok) (g:CN wd o N m) (r0:Rep K (aC He O) v0 wd.enc) (r4:Rep K (aC He O) v4 (bG N)) (nd:O.Nodup) (inO:∀a∈O,He a≠none) (hd0:He d=none) (hl0:He l=none) (I:IK P w K He O d l H p) (hb:SqT K (aC H (d::l::O)) b (pv q)) (hq:lY wd N q) (wb:WB (lY wd N) p)
  (k:∀H' x8,IK P w K He O d l H' (dH (m6 wd N q) p)->D.nx (sk v0 v4 i j o d l (some (.ref b)) x8) H'):cT (bf K (tE K W0 JL)) (av 8) (Cs P w K) D (sk v0 v4 i j o d l (some (.ref b)) x8) H:=by
 obtain ⟨bs,e1,e2,e3⟩:=I.bs;obtain ⟨φ,hφ⟩:=D2H.ext I.hD;have hdl:d≠l:=fun z=>by rw [z,e1] at hφ;cases hφ
 have nd2:(d::l::O).Nodup:=List.nodup_cons.mpr ⟨fun z=>(Kr z).elim hdl fun y=>inO d y hd0,List.nodup_cons.mpr ⟨fun y=>inO l y hl0,nd⟩⟩
 have in2:∀a∈d::l::O,H a≠none:=fun a ha=>by
  rcases Kr ha with rfl | ha
  ·rw [hφ];exact Option.some_ne_none _
  rcases Kr ha with rfl | ha
  ·rw [e1];exact Option.some_ne_none _
  ·cases e:He a with
   | none=>exact absurd e (inO a ha)
   | some u=>rw [I.s a u e];exact Option.some_ne_none _
 have mo:Same (aC He O) (aC H (d::l::O)):=dW I.s fun a ha=>by
  rcases Kr ha with rfl | ha
  ·exact .inr hd0
  rcases Kr ha with rfl | ha
  ·exact .inr hl0
  ·exact .inl ha
 have E:EnvOk K H (d::l::O) (List.replicate (Gb wd o i j N (KD (bY q))).length []) H (sk v0 v4 i j o d l (some (.ref b)) x8) (Gb wd o i j N (KD (bY q))):=by
  refine jE nd2 in2 rfl fun k x hx=>?_
  match k,hx with
  | 0,hx=>cases hx;exact ⟨rfl,_,rfl,r0.mono mo⟩
  | 1,hx=>cases hx;exact ⟨rfl,_,rfl,.int _⟩
  | 2,hx=>cases hx;exact ⟨rfl,_,rfl,.int _⟩
  | 3,hx=>cases hx;exact ⟨rfl,_,rfl,.bl _⟩
  | 4,hx=>cases hx;exact ⟨rfl,_,rfl,r4.mono mo⟩
  | 5,hx=>cases hx
  | 6,hx=>cases hx
  | 7,hx=>cases hx;exact ⟨rfl,_,rfl,sO hb⟩
  | 8,hx=>cases hx
  | k+9,hx=>cases hx
 refine oU in2 E (bR (ar (aj (i:=0) rfl) (ar (aj (i:=4) rfl) (ar (aj (i:=7) rfl) ag))) (AY ok g hq) rfl rfl) rfl fun v H3 s3 r=>?_
 generalize hts:m6 wd N q=ts at r k
 have hB:∀t∈ts,lY wd N t:=fun t ht=>BS ok g hq t (by rw [hts];exact ht)
 cases r with
 | @lst qa vs _ hqL hl hr=>
 rw [length_map] at hl;refine ⟨qa,rfl,⟨_,hid_le.seq hqL⟩,?_⟩
 refine yT (xs:=vs) (fun k U' H'=>(∃x8,U'=sk v0 v4 i j o d l (some (.ref b)) x8)/\Same (aC H3 (d::l::O)) (aC H' (d::l::O))/\IK P w K He O d l H' (dH (ts.take k) p)) ⟨⟨_,rfl⟩,Same.refl _,I.grow s3⟩ (fun k U' H' _ h=>hid_le.seq (h.2.1.seq hqL)) (fun k v U' H' e h=>?_) fun U' H' h=>?_
 ·obtain ⟨⟨x8,rfl⟩,sm,I2⟩:=h
  have hk:k<ts.length:=by rw [<-hl];exact (Kw e).1
  have et:ts[k]?=some ts[k]:=Ks hk
  have htk:ts.take (k+1)=ts.take k++[ts[k]]:=by rw [take_succ,et];rfl
  have rp:=hr k v (bY ts[k]) e (by rw [getElem?_map,et];rfl)
  generalize ts[k]=t at htk rp
  obtain ⟨c,rfl,hc⟩:=EB rp;obtain ⟨wbk,_⟩:=yX (ts:=ts.take k) wb fun t ht=>hB t (List.mem_of_mem_take ht)
  have b1:=EN ok.h24 wbk.nd wbk.ok
  have b2:=wbk.le
  refine yh (wd:=wd) (N:=N) (q:=t) (b:=c) I2 hd0 hl0 rfl rfl rfl (aV sm hc) (by omega) (by omega) fun H4 eh I4=>⟨⟨_,rfl⟩,by rw [eh];exact sm,?_⟩
  rw [htk];unfold dH;rw [List.foldl_append];exact I4
 ·obtain ⟨⟨x8,rfl⟩,sm,I2⟩:=h
  rw [hl,take_of_length_le (KA _)] at I2;exact k H' x8 I2
theorem zt {x7:Option V} {D:cJ} (ok:wd.Ok) (g:CN wd o N m) (r0:Rep K (aC He O) v0 wd.enc) (r4:Rep K (aC He O) v4 (bG N)) (nd:O.Nodup) (inO:∀a∈O,He a≠none) (hd0:He d=none) (hl0:He l=none) (I:IK P w K He O d l H ([(i,j)],[(i,j)])) (lk:lY wd N (i,j))
  (k:∀H' x7 x8,IK P w K He O d l H' (qE wd N i j,[])->D.nx (sk v0 v4 i j o d l x7 x8) H'):xK (FG K) (Jq P w K) D (sk v0 v4 i j o d l x7 x8) H:=by
 refine ⟨fun m' U H=>∃p x7 x8,U=sk v0 v4 i j o d l x7 x8/\IK P w K He O d l H p/\WI (lY wd N) (m6 wd N) (i,j) p/\ua (m6 wd N) m' p=qE wd N i j/\2*(576-p.1.length)+p.2.length<m',⟨2000,_,_,_,rfl,I,Jm lk,rfl,by simp⟩,?_⟩
 rintro m' U H ⟨p,x7,x8,rfl,I,wi,hg,hm⟩
 obtain ⟨bs,e1,e2,e3⟩:=I.bs;refine ⟨.ref l,rfl,!(bs.map V.ref).isEmpty,.inl ⟨_,.of e1,rfl⟩,?_⟩
 cases m' with
 | zero=>exact absurd hm (Nat.not_lt_zero _)
 | succ m'=>
 unfold ua at hg
 cases e:p.2.getLast? with
 | none=>
  rw [e] at hg;have e0:p.2=[]:=List.getLast?_eq_none_iff.mp e
  rw [e0] at e2;have:bs=[]:=List.length_eq_zero_iff.mp e2
  subst this;refine cn (k H x7 x8 ?_)
  have:p=(qE wd N i j,[]):=Prod.ext hg e0
  rw [<-this];exact I
 | some t=>
  rw [e] at hg;have hne:p.2≠[]:=fun z=>by rw [z] at e;cases e
  have hnb:bs≠[]:=fun z=>hne (List.length_eq_zero_iff.mp (by rw [<-e2,z];rfl))
  have he:(!(bs.map V.ref).isEmpty)=true:=by cases bs with | nil=>exact absurd rfl hnb | cons a r=>rfl
  rw [he];refine ck ⟨fun U' H'=>∃m'',m''<m'+1/\∃p x7 x8,U'=sk v0 v4 i j o d l x7 x8/\IK P w K He O d l H' p/\WI (lY wd N) (m6 wd N) (i,j) p/\ua (m6 wd N) m'' p=qE wd N i j/\2*(576-p.1.length)+p.2.length<m'',fun U' H' z=>z,?_⟩
  have hpos:0<bs.length:=List.length_pos_iff.mpr hnb
  have hlb:bs.length-1<bs.length:=by omega
  have hlast:(bs.map V.ref)[(bs.map V.ref).length-1]?=some (.ref bs[bs.length-1]):=by rw [length_map,getElem?_map,Ks hlb];rfl
  have hbt:=e3 (bs.length-1) bs[bs.length-1] t (Ks hlb) (by rw [e2,<-List.getLast?_eq_getElem?];exact e)
  generalize bs[bs.length-1]=b at hlast hbt
  refine ⟨.ref l,rfl,.inl ⟨rfl,_,.of e1⟩,l,_,.ref b,rfl,rfl,e1,hlast,?_⟩
  have tin:=wi.b.sub t (mem_of_getLast? e)
  have I2:IK P w K He O d l (upd H l (.lst (bs.map V.ref).dropLast)) (p.1,p.2.dropLast):=⟨fun c u hc=>by
    rw [bw (fun z=>by subst z;rw [hl0] at hc;cases hc)]
    exact I.s c u hc,D2H.updL I.hD e1,bs.dropLast,by rw [bL,List.map_dropLast],by simp [e2],fun k c q a1 a2=>by
    rw [hid_upd (by simp)]
    have hk1:=(Kw a1).1
    rw [length_dropLast] at hk1;rw [getElem?_dropLast,if_pos (by omega)] at a1
    rw [getElem?_dropLast,if_pos (by omega)] at a2
    exact e3 k c q a1 a2⟩
  refine vO (i:=i) (j:=j) ok g r0 r4 nd inO hd0 hl0 I2 (by rw [hid_upd (by simp)];exact hbt) (wi.b.ok t tin) wi.drop fun H' x8 I3=>⟨m',Nat.lt_succ_self _,_,_,_,rfl,I3,(wi.step (fun x hx=>BS ok g hx) e).1,hg,?_⟩
  obtain ⟨wi2,hl2⟩:=wi.step (fun x hx=>BS ok g hx) e
  have a:=EN ok.h24 wi2.b.nd wi2.b.ok
  have c:p.1.length<=(dH (m6 wd N t) (p.1,p.2.dropLast)).1.length:=fM wi.b.nd (yX wi.drop (BS ok g (wi.b.ok t tin))).2.le
  omega
end
open Classical in
noncomputable def qx (w:Wd) (o:Bool):List Nat:=if h:w.Ok then (g9 h (o:=o)).choose else []
theorem Gy {w:Wd} (ok:w.Ok):∃m ks,aM [w.enc,.bool o]=.ok ⟨.leaf,bG (qx w o)⟩/\CN w o (qx w o) m/\ks.length=w.n/\qx w o=bp ks/\m=(dn ks).length/\Lc w o (qx w o):=by
 unfold qx;rw [dif_pos ok];exact (g9 ok (o:=o)).choose_spec
noncomputable def qF (w:Wd) (o:Bool) (i j:Nat):PV:=if nA (qx w o) i=nA (qx w o) j then ⟨.lst .leaf,.list ((qE w (qx w o) i j).map bY)⟩ else ⟨.leaf,.none⟩
noncomputable def J3 (ds:List KB):Prop:=∃x:Wd×Nat×Nat×Bool,ds=[x.1.enc,rm x.2.1,rm x.2.2.1,.bool x.2.2.2]/\x.1.Ok/\x.2.1<x.1.n/\x.2.2.1<x.1.n
open Classical in
noncomputable def bN (ds:List KB):b9:=if h:J3 ds then .ok (qF h.choose.1 h.choose.2.2.2 h.choose.2.1 h.choose.2.2.1) else .no
theorem jb {w:Wd} {i j:Nat} (ok:w.Ok) (hi:i<w.n) (hj:j<w.n):bN [w.enc,rm i,rm j,.bool o]=.ok (qF w o i j):=by
 have H:J3 [w.enc,rm i,rm j,.bool o]:=⟨(w,i,j,o),rfl,ok,hi,hj⟩
 unfold bN;rw [dif_pos H];obtain ⟨e,k,_,_⟩:=H.choose_spec;injection e with e1 e
 injection e with e2 e
 injection e with e3 e
 injection e with e4 _
 rw [<-xf ok k e1,<-Int.ofNat_inj.mp (PyData.int.inj e2),<-Int.ofNat_inj.mp (PyData.int.inj e3),<-PyData.bool.inj e4]
theorem wD {ds:List KB} {p:PV} (h:bN ds=.ok p):∃w o i j,ds=[w.enc,rm i,rm j,.bool o]/\w.Ok/\i<w.n/\j<w.n/\p=qF w o i j:=by
 unfold bN at h;split at h
 ·rename_i H
  cases h;obtain ⟨e,k,k2,k3⟩:=H.choose_spec;exact ⟨_,_,_,_,e,k,k2,k3,rfl⟩
 ·cases h
section
variable {P:Program} {w:World} {K:Fg} {H:Hp} {O:List Addr} {wd:Wd} {o:Bool} {i j:Nat}
theorem C3 {vs:List V} {Q:VK} {Qn:St->Hp->Prop} (ok:wd.Ok) (hi:i<wd.n) (hj:j<wd.n) (nd:O.Nodup) (inH:∀a∈O,H a≠none) (rs:Reps K (aC H O) vs [wd.enc,rm i,rm j,.bool o])
  (k:∀v H' G,RetOk K H O (qF wd o i j) v H' G->Q v H'):FK P w K { nx:=Qn,rt:=Q } (L2.start hV vs) H:=by
 have hvl:vs.length=4:=rs.1
 match vs,hvl,rs with
 | [v0,v1,v2,v3],_,rs=>
 have r0:=rs.2 0 v0 _ rfl rfl
 have r1:=rs.2 1 v1 _ rfl rfl
 have r2:=rs.2 2 v2 _ rfl rfl
 have r3:=rs.2 3 v3 _ rfl rfl
 cases r1
 cases r2
 cases r3;obtain ⟨m,ks,en,g,_,_,_,_⟩:=Gy ok (o:=o)
 have inS:∀{H'},Same H H'->∀a∈O,H' a≠none:=fun {H'} s a ha=>by
  cases e:H a with
  | none=>exact absurd e (inH a ha)
  | some u=>rw [s a u e];exact Option.some_ne_none _
 have mono:∀{H'},Same H H'->Same (aC H O) (aC H' O):=fun s=>dW s fun a ha=>.inl ha
 show FK P w K { nx:=Qn,rt:=Q } [some v0,some (.int (i:Int)),some (.int (j:Int)),some (.bl o),none,none,none,none,none] H
 have E:∀(H':Hp),Same H H'->EnvOk K H' O (List.replicate (Jd wd o i j).length []) H' [some v0,some (.int (i:Int)),some (.int (j:Int)),some (.bl o),none,none,none,none,none] (Jd wd o i j):=fun H' s=>by
  refine jE (Γ:=(Jd wd o i j)) nd (inS s) rfl fun k x hx=>?_
  match k,hx with
  | 0,hx=>cases hx;exact ⟨rfl,_,rfl,r0.mono (mono s)⟩
  | 1,hx=>cases hx;exact ⟨rfl,_,rfl,.int _⟩
  | 2,hx=>cases hx;exact ⟨rfl,_,rfl,.int _⟩
  | 3,hx=>cases hx;exact ⟨rfl,_,rfl,.bl _⟩
  | 4,hx=>cases hx
  | 5,hx=>cases hx
  | 6,hx=>cases hx
  | 7,hx=>cases hx
  | 8,hx=>cases hx
  | k+9,hx=>cases hx
 refine oU inH (E H (Same.refl _)) (bR (ar (aj (i:=0) rfl) ag) ok.check rfl rfl) rfl fun _ H1 s1 _=>?_
 refine oU (inS s1) (E H1 s1) (bR (ar (aj (i:=0) rfl) (ar (aj (i:=1) rfl) ag)) (BL ok hi) rfl rfl) rfl fun _ H2 s2 _=>?_
 have s02:=s1.trans s2
 refine oU (inS s02) (E H2 s02) (bR (ar (aj (i:=0) rfl) (ar (aj (i:=2) rfl) ag)) (BL ok hj) rfl rfl) rfl fun _ H3 s3 _=>?_
 have s03:=s02.trans s3
 refine oU (inS s03) (E H3 s03) (bR (ar (aj (i:=0) rfl) (ar (aj (i:=3) rfl) ag)) en rfl rfl) rfl fun v4 He s4 r4=>?_
 have s0e:=s03.trans s4
 have r4:Rep K (aC He O) v4 (bG (qx wd o)):=r4
 unfold qF at k;generalize qx wd o=N at en g r4 k
 have hl:=g.len
 have E2:EnvOk K He O (List.replicate (Gb wd o i j N none).length []) He [some v0,some (.int (i:Int)),some (.int (j:Int)),some (.bl o),some v4,none,none,none,none] (Gb wd o i j N none):=by
  refine jE nd (inS s0e) rfl fun k x hx=>?_
  match k,hx with
  | 0,hx=>cases hx;exact ⟨rfl,_,rfl,r0.mono (mono s0e)⟩
  | 1,hx=>cases hx;exact ⟨rfl,_,rfl,.int _⟩
  | 2,hx=>cases hx;exact ⟨rfl,_,rfl,.int _⟩
  | 3,hx=>cases hx;exact ⟨rfl,_,rfl,.bl _⟩
  | 4,hx=>cases hx;exact ⟨rfl,_,rfl,r4⟩
  | 5,hx=>cases hx
  | 6,hx=>cases hx
  | 7,hx=>cases hx
  | 8,hx=>cases hx
  | k+9,hx=>cases hx
 refine AQ E2 (dt (s:=.leaf) (aB (iX (i:=4) rfl (aj (i:=1) (d:=rm i) rfl) (by omega)) (iX (i:=4) rfl (aj (i:=2) (d:=rm j) rfl) (by omega)) neN)) fun H5 s5=>?_
 have s05:=s0e.trans s5
 by_cases hn:nA N i=nA N j
 case neg=>
  rw [if_neg hn] at k;have:(nA N i==nA N j)=false:=by simpa using hn
  rw [this];exact ck (k _ _ [] ⟨s05,(fun _ z=>nomatch z),(fun _ z=>nomatch z),nodup_nil,.leaf .non,rfl⟩)
 case pos=>
  rw [if_pos hn] at k;have:(nA N i==nA N j)=true:=by simpa using hn
  rw [this];have lk:lY wd N (i,j):=⟨hi,hj,hn⟩
  have inO5:=inS s05
  refine cn ⟨O,fun d ob hd hD0=>⟨_,rfl,_,rfl,vl,fun t0 ht0=>?_⟩⟩
  have ht0':H5 t0=none:=(cb hd).free ht0
  have htd:t0≠d:=fun z=>by
   obtain ⟨φ,hφ⟩:=D2H.ext hD0;rw [z,hφ] at ht0
   cases ht0
  have hb0:SqT K (aC (upd (upd H5 d ob) t0 (.tup (pv (i,j)))) O) t0 (pv (i,j)):=.inl (.inl (h9 bL fun z=>inO5 t0 z ht0'))
  refine ⟨t0,ky i j,rfl,D2H.grow hD0 (cb ht0),⟨_,hb0,.cons rfl (.cons rfl .nil)⟩,rfl,fun ob2 hD=>?_⟩
  have hD:D2H P w K (upd (upd (upd H5 d ob) t0 (.tup (pv (i,j)))) d ob2) O [false,false] d (gA [(i,j)] kT):=hD
  generalize eH6:upd (upd (upd H5 d ob) t0 (.tup (pv (i,j)))) d ob2=H6 at hD
  have s56:Same H5 H6:=fun c u hc=>by
   rw [<-eH6,bw (fun z=>by subst z;rw [hd] at hc;cases hc),bw (fun z=>by subst z;rw [ht0'] at hc;cases hc),bw (fun z=>by subst z;rw [hd] at hc;cases hc)]
   exact hc
  refine ⟨_,rfl,_,rfl,vl,fun t1 ht1=>⟨Nat.le_trans (by decide:1<=1000) (by decide),fun l hl0=>?_⟩⟩
  have ht1':H5 t1=none:=s56.free ht1
  have s67:Same H6 (upd H6 t1 (.tup (pv (i,j)))):=cb ht1
  have hl6:H6 l=none:=s67.free hl0
  have hl5:H5 l=none:=s56.free hl6
  have hlt:t1≠l:=fun z=>by rw [<-z,bL] at hl0;cases hl0
  have htd1:t1≠d:=fun z=>by
   obtain ⟨φ,hφ⟩:=D2H.ext hD;rw [z,hφ] at ht1
   cases ht1
  have s78:Same (upd H6 t1 (.tup (pv (i,j)))) (upd (upd H6 t1 (.tup (pv (i,j)))) l (.lst [.ref t1])):=cb hl0
  have hdt:H5 d=none:=hd
  have I:IK P w K H5 O d l (upd (upd H6 t1 (.tup (pv (i,j)))) l (.lst [.ref t1])) ([(i,j)],[(i,j)]):=by
   refine ⟨(s56.trans s67).trans s78,D2H.grow (D2H.grow hD s67) s78,[t1],bL,rfl,fun k b q a1 a2=>?_⟩
   match k,a1,a2 with
   | 0,a1,a2=>
    cases a1
    cases a2;refine .inl (.inl (h9 (by rw [bw hlt,bL]) fun z=>?_))
    rcases Kr z with z | z
    ·exact htd1 z
    rcases Kr z with z | z
    ·exact hlt z
    ·exact inO5 t1 z ht1'
   | k+1,a1,a2=>simp at a1
  refine zt (m:=m) ok g (r0.mono (mono s05)) (r4.mono (dW s5 fun a ha=>.inl ha)) nd inO5 hd hl5 I lk fun H7 x7 x8 I7=>?_
  have sH7:Same H H7:=s05.trans I7.s
  refine ⟨.ref d,rfl,d,O,[false,false],_,rfl,I7.hD,fun lr bs hlr hp=>?_⟩
  have hpb:bs.length=(qE wd N i j).length/\∀(k:Nat) (p:Nat×Nat),(qE wd N i j)[k]?=some p->∃b,bs[k]?=some b/\SqT K (aC H7 O) b (pv p):=wm hp
  refine k _ _ [lr] ⟨sH7.trans (cb hlr),fun a ha=>by rw [List.mem_singleton.mp ha];exact sH7.free hlr,fun a ha=>by rw [List.mem_singleton.mp ha,bL];exact Option.some_ne_none _,by simp,?_,rfl⟩
  refine Own.mkLeaves bL (by rw [length_map,length_map];exact hpb.1) fun k u dd h1 h2=>?_
  rw [getElem?_map] at h1 h2
  obtain ⟨b,eb,rfl⟩:=Option.map_eq_some_iff.mp h1;obtain ⟨q,eq,rfl⟩:=Option.map_eq_some_iff.mp h2;obtain ⟨b',eb',hT⟩:=hpb.2 k q eq;rw [eb] at eb'
  cases eb'
  refine (sO hT).mono (dW (cb hlr) fun a ha=>?_)
  rcases Kr ha with z | z
  ·rw [z];exact .inr hlr
  ·exact .inl z
end
end KC
namespace KC
open PySem PySem.Spec L2 T
open PyProof.Rows hiding St
variable {X:Cx}
noncomputable abbrev jk:List Str:=["check_world", "check_room", "class_numbers", "pairs_behind_likeness", "list"]
section
variable {P:Program} {w:World} {K:Fg} {mg:Str->Option Value} {base:Heap} {f:Addr} {fd:FuncData} {st:Stmt} {j1 j2 j3 j4 k:Nat} {vs cs ls lo gs:List Nat}
theorem Af (F:Fun K "alike" "alike" st f fd) (hm:mg "alike"=some (.ref f)) (b:Binds K fd ["world", "one", "other", "owned"] []) (sc:aR hV ["world", "one", "other", "owned"] (cf st)) (cp:d6 hV jk vs cs ls lo gs (cf st)=true) (nm:iW hV jk=true) (n_list:mg "list"=none)
  (c1:DefOk P w K mg base j1 "check_world" 1 ay) (c2:DefOk P w K mg base j2 "check_room" 2 aA) (c3:DefOk P w K mg base j3 "class_numbers" 2 aM) (c4:DefOk P w K mg base j4 "pairs_behind_likeness" 3 m_pairs_behind) (h1:decide (j1<=k)=true) (h2:decide (j2<=k)=true) (h3:decide (j3<=k)=true) (h4:decide (j4<=k)=true)
  (bd:∀X:Cx,Cp X hV jk vs cs ls lo gs->Rm X->PassesOwn (model X.prog X.w) X.A X.env X.xe->X.mg "list"=none->gz X "check_world" 1 ay->gz X "check_room" 2 aA->gz X "class_numbers" 2 aM->gz X "pairs_behind_likeness" 3 m_pairs_behind->PSs X (fG st) (FK X.prog X.w X.K)):DefOk P w K mg base (k+1) "alike" 4 bN:=by
 refine ⟨f,fd,["world", "one", "other", "owned"],F.ok sc (fun vs H Q E h=>h.1) (fun cdv A outer s H vs Q E hr h=>?_),hm,F.kp,b⟩
 obtain ⟨hl,O,ds,nd,inH,rs,w'⟩:=h
 cases e:bN ds with
 | er c=>rw [e] at w';exact w'.elim
 | no=>rw [e] at w';exact w'.elim
 | ok p=>
  rw [e] at w';obtain ⟨wd,o,i,j,rfl,ok,hi,hj,rfl⟩:=wD e;exact ⟨_,bd _ (Cp.fn cp nm) hr.units PassesOwn.never n_list (c1.cal hr h1) (c2.cal hr h2) (c3.cal hr h3) (c4.cal hr h4),C3 ok hi hj nd inH rs w'⟩
end
noncomputable def eU:Stmt:=rL 24
theorem CM:aR hV ["world", "one", "other", "owned"] (cf eU):=⟨rfl,rfl,rfl,by decide +kernel,rfl,by decide +kernel,by decide +kernel⟩
theorem D4:d6 hV jk [0,1,2,3,4,5,6,7,8] [] [0,1,2,3,4,5,6,7,8] [0,1,2,3,4,5,6,7,8] [0,1,2,3,4] (cf eU)=true:=by kernel_rfl
theorem DA:iW hV jk=true:=by kernel_rfl
theorem th {N gl:List Str} {vs cs ls lo gs:List Nat} (S:Cp X N gl vs cs ls lo gs) (i:Nat) (x:Str) (pos:Pos) (e:N[i]?=some x) (hi:vs.contains i=true):PE X (.Name x pos) (ai i):=by
 have m:=S.nm x (mem_of_getElem? e)
 exact xI (by rw [S.hN];exact e) (S.vis i x e hi) m.1 m.2
noncomputable abbrev JZ (X:Cx):Prop:=Cp X hV jk [0,1,2,3,4,5,6,7,8] [] [0,1,2,3,4,5,6,7,8] [0,1,2,3,4,5,6,7,8] [0,1,2,3,4]
theorem yG (S:JZ X) {p1 p2 p3:Pos} {k1:Nat}:PE X (.Tuple [.Name "one" p1,.Name "other" p2] k1 p3) (yc 1 2):=u4 (bK (th S 1 _ _ rfl rfl) (bK (th S 2 _ _ rfl rfl) dF (aH rfl)) (aH rfl))
theorem Ef (S:JZ X) (R:Rm X) (hp:PassesOwn (model X.prog X.w) X.A X.env X.xe) (n_list:X.mg "list"=none) (c1:gz X "check_world" 1 ay) (c2:gz X "check_room" 2 aA) (c3:gz X "class_numbers" 2 aM) (c4:gz X "pairs_behind_likeness" 3 m_pairs_behind):PSs X (fG eU) (FK X.prog X.w X.K):=by
 have hN:X.N.Nodup:=by rw [S.hN];exact S.nd
 have hu:X.A.units+2<cLine:=Nat.lt_of_le_of_lt (by omega) R
 have g:∀(i:Nat) (x:Str),hV[i]?=some x->X.N[i]?=some x:=fun i x e=>by rw [S.hN];exact e
 have lc:∀(i:Nat) (x:Str),hV[i]?=some x->[0,1,2,3,4,5,6,7,8].contains i=true->Loc X.env.scope x/\(X.fn x=true\/X.env.scope.names.lookup x=some .local):=fun i x e hi=>S.loc i x e hi
 refine cK (pb (TQ.Q.p (TQ.w_cc S 0 rfl rfl c1 (TQ.w_da_cons (TQ.w_cv S 0 rfl rfl) TQ.w_da_nil (aH rfl)) (aH rfl) rfl)) rfl) ?_
 refine cK (pb (TQ.Q.p (TQ.w_cc S 1 rfl rfl c2 (TQ.w_da_cons (TQ.w_cv S 0 rfl rfl) (TQ.w_da_cons (TQ.w_cv S 1 rfl rfl) TQ.w_da_nil (aH rfl)) (aH rfl)) (aH rfl) rfl)) rfl) ?_
 refine cK (pb (TQ.Q.p (TQ.w_cc S 1 rfl rfl c2 (TQ.w_da_cons (TQ.w_cv S 0 rfl rfl) (TQ.w_da_cons (TQ.w_cv S 2 rfl rfl) TQ.w_da_nil (aH rfl)) (aH rfl)) (aH rfl) rfl)) rfl) ?_
 refine cK (qH hN (g 4 _ rfl) (lc 4 _ rfl rfl).1 (TQ.Q.p (TQ.w_cc S 2 rfl rfl c3 (TQ.w_da_cons (TQ.w_cv S 0 rfl rfl) (TQ.w_da_cons (TQ.w_cv S 3 rfl rfl) TQ.w_da_nil (aH rfl)) (aH rfl)) (aH rfl) rfl)) rfl (lc 4 _ rfl rfl).2) ?_
 refine cK (dh (TQ.Q.p (TQ.w_ct (pN R) (TQ.w_de_idx (TQ.w_cv S 4 rfl rfl) (TQ.w_cv S 1 rfl rfl) (fun _ _=>rfl)) (TQ.w_de_idx (TQ.w_cv S 4 rfl rfl) (TQ.w_cv S 2 rfl rfl) (fun _ _=>rfl)) (by with_unfolding_all rfl))) (dv (iH Bx)) pe) ?_
 refine cK (qH hN (g 5 _ rfl) (lc 5 _ rfl rfl).1 (iR [false,false] hu (yG S) dM) rfl (lc 5 _ rfl rfl).2) ?_
 refine cK (qH hN (g 6 _ rfl) (lc 6 _ rfl rfl).1 (BY (bK (yG S) dF (aH rfl))) rfl (lc 6 _ rfl rfl).2) ?_
 refine cK (E8 hp (E9 (th S 6 _ _ rfl rfl) (fun _=>rfl)) ?_) ?_
 ·refine cK (qH hN (g 7 _ rfl) (lc 7 _ rfl rfl).1 (sW PySem.F.plainAttrs_list PySem.F.slot_list_pop PySem.F.type_list_pop tw (th S 6 _ _ rfl rfl) rfl rfl) rfl (lc 7 _ rfl rfl).2) ?_
  refine dv (nu hp S.calm (nq (TQ.Q.p (TQ.w_cc S 3 rfl rfl c4 (TQ.w_da_cons (TQ.w_cv S 0 rfl rfl) (TQ.w_da_cons (TQ.w_cv S 4 rfl rfl) (TQ.w_da_cons (TQ.w_cv S 7 rfl rfl) TQ.w_da_nil (aH rfl)) (aH rfl)) (aH rfl)) (aH rfl) rfl))) (mi hN (g 8 _ rfl) (lc 8 _ rfl rfl).1 (lc 8 _ rfl rfl).2) ?_ (fun _=>rfl))
  refine dv (dh (Bz (Fv hu (th S 8 _ _ rfl rfl) (th S 5 _ _ rfl rfl)) (by with_unfolding_all rfl)) ?_ pe)
  refine cK (iQ hu (th S 5 _ _ rfl rfl) (th S 8 _ _ rfl rfl) dM rfl) ?_
  exact dv (pb (oj PySem.F.plainAttrs_list PySem.F.slot_list_append PySem.F.type_list_append Cd (th S 6 _ _ rfl rfl) (bK (th S 8 _ _ rfl rfl) dF (aH rfl)) rfl rfl rfl (aH rfl) rfl) rfl)
 ·exact dv (iH (Ce (jP S.calm) (S.g (j:=4) rfl rfl).1 n_list Ge (bK (th S 5 _ _ rfl rfl) dF (aH rfl)) (S.g (j:=4) rfl rfl).2.2 (S.g (j:=4) rfl rfl).2.1 (aH rfl) rfl))
theorem tf {P:Program} {w:World} {K:Fg} {mg:Str->Option Value} {base:Heap} {f:Addr} {fd:FuncData} {j1 j2 j3 j4 k:Nat} (F:Fun K "alike" "alike" eU f fd) (hm:mg "alike"=some (.ref f)) (b:Binds K fd ["world", "one", "other", "owned"] []) (n_list:mg "list"=none)
  (c1:DefOk P w K mg base j1 "check_world" 1 ay) (c2:DefOk P w K mg base j2 "check_room" 2 aA) (c3:DefOk P w K mg base j3 "class_numbers" 2 aM) (c4:DefOk P w K mg base j4 "pairs_behind_likeness" 3 m_pairs_behind) (h1:decide (j1<=k)=true) (h2:decide (j2<=k)=true) (h3:decide (j3<=k)=true) (h4:decide (j4<=k)=true):DefOk P w K mg base (k+1) "alike" 4 bN:=
 Af F hm b CM D4 DA n_list c1 c2 c3 c4 h1 h2 h3 h4 fun X S R hp n c1 c2 c3 c4=>Ef S R hp n c1 c2 c3 c4
end KC
namespace KC.Ap
open PySem PySem.Spec L2 T PySem.SeqAt
open PyProof.Rows hiding St
open KC
variable {K:Fg} {H':Hp} {c:Str} {wd:Wd} {t:Nat} {vs:List V} {Qn:St->Hp->Prop} {Γ:Ev} {x8:Option V} {L:List Row}
noncomputable def pY (ks:List (Nat×Nat)) (f:Nat×Nat->V):List (List T.It×V):=ks.map fun p=>(ky p.1 p.2,f p)
theorem Ey {f:Nat×Nat->V} {p:Nat×Nat}:∀{ks:List (Nat×Nat)},p∈ks->cg (pY ks f) (ky p.1 p.2)=some (f p)
 | q::ks,h=>by
  by_cases e:ky q.1 q.2=ky p.1 p.2
  ·obtain ⟨e1,e2⟩:=BX e
   have:q=p:=Prod.ext e1 e2
   subst this;exact Ca rfl
  ·refine (xX (p:=(ky q.1 q.2,f q)) (r:=pY ks f) e).trans (Ey ((Kr h).resolve_left fun z=>e ?_))
   rw [z]
theorem GE {f:Nat×Nat->V} {p:Nat×Nat}:∀{ks:List (Nat×Nat)},p∉ks->cg (pY ks f) (ky p.1 p.2)=none
 | [],_=>rfl
 | q::ks,h=>by
  have e:¬ky q.1 q.2=ky p.1 p.2:=fun e=>h (by
   obtain ⟨e1,e2⟩:=BX e;have:q=p:=Prod.ext e1 e2
   rw [this];exact mem_cons_self)
  exact (xX (p:=(ky q.1 q.2,f q)) (r:=pY ks f) e).trans (GE fun z=>h (Ku _ z))
theorem Gh {f:Nat×Nat->V} {p:Nat×Nat} {ks:List (Nat×Nat)}:(cg (pY ks f) (ky p.1 p.2)).isSome=decide (p∈ks):=by
 by_cases h:p∈ks
 ·rw [Ey h,decide_eq_true h];rfl
 ·rw [GE h,decide_eq_false h];rfl
theorem wL {f:Nat×Nat->V} {ks:List (Nat×Nat)}:(pY ks f).length=ks.length:=by unfold pY;rw [length_map]
noncomputable def DF (P:Program) (w:World) (K:Fg) (H:Hp) (d:Addr) (ks:List (Nat×Nat)) (f:Nat×Nat->V):Prop:=D2 P w K H [false,false] d (pY ks f)
noncomputable def DK (P:Program) (w:World) (K:Fg) (H:Hp) (d:Addr) (ks:List (Nat×Nat)):Prop:=∃f,DF P w K H d ks f
theorem DF.grow {P:Program} {w:World} {H:Hp} {d:Addr} {ks:List (Nat×Nat)} {f:Nat×Nat->V} (x:DF P w K H d ks f) (s:Same H H'):DF P w K H' d ks f:=by
 obtain ⟨xs,h1,h2,h3⟩:=x;exact ⟨xs,s _ _ h1,h2.mono fun c xs=>aV s,h3⟩
theorem DK.grow {P:Program} {w:World} {H:Hp} {d:Addr} {ks:List (Nat×Nat)} (x:DK P w K H d ks) (s:Same H H'):DK P w K H' d ks:=let ⟨f,h⟩:=x;⟨f,h.grow s⟩
noncomputable def iD:FS:=(aI (fz (bo aw (aE eC (ae 3) (eK (.int 0)))) (bh (aG .leaf 5 (bA (ak (ak (ae 0) (eK (.int 2))) (ae 2))) aO (cy (aa (ae 4) (aa (ae 5) af))))) bt)
  (bh (aG .leaf 5 (bA (ak (ak (ae 0) (eK (.int 2))) (ae 1))) aO (cy (aa (ae 5) (aa (ae 4) af))))))
noncomputable def bu:List KB->b9:=aQ 6 iD
noncomputable def jI:FS:=(bh (aE iw (aE (eA false) (ae 3) (ak (ak (ae 0) (eK (.int 1))) (ae 1))) (aE (eA false) (ae 3) (ak (ak (ae 0) (eK (.int 1))) (ae 2)))))
noncomputable def bc:List KB->b9:=aQ 4 jI
theorem DL {l:List Str} (hc:PyData.strOk c=true) (hl:∀x∈l,PyData.strOk x=true):eA false (.str c) (j9 l)=some (.bool (l.contains c)):=by
 have s1:shaped (.str c)=true:=rH hc
 have s2:shaped (j9 l)=true:=by
  have q:=D6 (xs:=l.map .str) fun d hd=>by
   obtain ⟨x,hx,rfl⟩:=List.mem_map.mp hd;exact ⟨x,rfl,hl x hx⟩
  unfold shaped;show (PyData.canLay0 (.list (l.map .str))&&decide (PyData.depth (.list (l.map .str))<=64))=true
  rw [PyData.canLay0,q.1,Bool.true_and,PyData.depth,q.2];rfl
 show (if shaped (.str c)&&shaped (.list (l.map .str)) then some (PyData.bool (if false=true then _ else (l.map .str).any fun y=>PyData.eqv y (.str c))) else none)=_
 have s2':shaped (.list (l.map PyData.str))=true:=s2
 rw [s1,s2',Bool.and_self,if_pos rfl,if_neg Bool.false_ne_true];congr 2
 rw [Bool.eq_iff_iff,any_eq_true,contains_iff_mem];constructor
 ·rintro ⟨y,hy,e⟩
  obtain ⟨x,hx,rfl⟩:=List.mem_map.mp hy;have:x=c:=by simpa [PyData.eqv] using e
  rw [<-this];exact hx
 ·intro h
  exact ⟨.str c,List.mem_map.mpr ⟨c,h,rfl⟩,by simp [PyData.eqv]⟩
theorem IG {a b:Bool}:iw (.bool a) (.bool b)=some (.bool (a != b)):=by cases a<;>cases b<;>kernel_rfl
theorem oB (ok:wd.Ok) {r:Nat}:∀x∈wd.mks r,PyData.strOk x=true:=fun x hx=>by
 unfold Wd.mks at hx;rw [Kt] at hx
 cases e:wd.m[r]? with
 | none=>rw [e] at hx;cases hx
 | some l=>rw [e] at hx;exact ok.mc l (mem_of_getElem? e) x hx
section
variable {wd:Wd} {i j:Nat}
theorem ur (ok:wd.Ok) (hi:i<wd.n) (hj:j<wd.n) (hc:PyData.strOk c=true):bc [wd.enc,rm i,rm j,.str c]=.ok ⟨.leaf,.bool (uz wd i j c)⟩:=
 bj (aW (aB (aB (aj (i:=3) rfl) (Gm ok (Γ:=bO 4 [wd.enc,rm i,rm j,.str c]) (i:=0) (fb:=ae 1) (s:=.leaf) rfl (aj rfl) hi) (DL hc (oB ok))) (aB (aj (i:=3) rfl) (Gm ok (i:=0) (fb:=ae 2) (s:=.leaf) rfl (aj rfl) hj) (DL hc (oB ok))) IG) rfl)
theorem uo (ok:wd.Ok) (hi:i<wd.n) (hj:j<wd.n) {s:Nat} (hs:s<=1):bu [wd.enc,rm i,rm j,rm s,rm t]=.ok ⟨.lst .leaf,.list ((fv wd i j s t).map bY)⟩:=by
 have tst:=dt (s:=.leaf) (aB (aj (Γ:=bO 6 [wd.enc,rm i,rm j,rm s,rm t]) (i:=3) (d:=rm s) rfl) (aK (d:=.int 0)) (KC.eq_int (a:=(s:Int)) (b:=0)))
 have l1:=nM ok hi
 have l2:=nM ok hj
 have a1:=xR ok (Γ:=bO 6 [wd.enc,rm i,rm j,rm s,rm t]) (i:=0) (fb:=ae 2) (s:=.leaf) (r:=j) rfl (aj rfl) hj
 have a2:=xR ok (Γ:=bO 6 [wd.enc,rm i,rm j,rm s,rm t]) (i:=0) (fb:=ae 1) (s:=.leaf) (r:=i) rfl (aj rfl) hi
 unfold fv;by_cases h:s=0
 ·subst h
  rw [if_pos rfl,map_map];exact bj (yO (bU (t:=true) tst (fun _=>aW (u5 rm (wd.stp j) (fun a=>⟨.tup [.leaf,.leaf],bY (t,a)⟩) (st:=true) (cM (s:=.leaf) a1 rfl) (by simp [bO]) rfl (by omega) fun a ha=>⟨de (ar (aj (i:=4) rfl) (ar (aj (i:=5) rfl) ag)) rfl rfl,rfl⟩) rfl) nofun))
 ·rw [if_neg h,map_map]
  have e:((s:Int)==0)=false:=by simpa using (by omega:(s:Int)≠0)
  rw [e] at tst;exact bj (az (bU (t:=false) tst nofun (fun _=>rfl)) (aW (u5 rm (wd.stp i) (fun a=>⟨.tup [.leaf,.leaf],bY (a,t)⟩) (st:=true) (cM (s:=.leaf) a2 rfl) (by simp [bO]) rfl (by omega) fun a ha=>⟨de (ar (aj (i:=5) rfl) (ar (aj (i:=4) rfl) ag)) rfl rfl,rfl⟩) rfl))
end
noncomputable abbrev lX:List Str:=["world", "one", "other", "side", "there", "known", "pair"]
noncomputable abbrev uV:List Str:=["all", "pairs_asked"]
noncomputable abbrev F6:F1:=ah 5 bu (aa (ae 0) (aa (ae 1) (aa (ae 2) (aa (ae 3) (aa (ae 4) af)))))
noncomputable def HS (P:Program) (w:World) (K:Fg):L2.TS:=cE (jV (eo K false) (ao (bJ [6] (bf K (tE K W0 F6)) (av 6) b3 (gG P w K (ai 6) (ai 5))) bb))
noncomputable def rF (P:Program) (w:World) (K:Fg):Sp:=fun vs H Q _=>∃(wd:Wd) (O:List Addr) (v0:V) (d:Addr) (ks:List (Nat×Nat)) (i j s t:Nat),vs=[v0,.int (i:Int),.int (j:Int),.int (s:Int),.int (t:Int),.ref d]/\wd.Ok/\O.Nodup/\(∀a∈O,H a≠none)/\Rep K (aC H O) v0 wd.enc/\DK P w K H d ks/\i<wd.n/\j<wd.n/\s<=1/\∀H',Same H H'->Q (.bl (gB wd ks i j s t)) H'
theorem uH (ok:wd.Ok) {i j s:Nat}:(fv wd i j s t).length<=1000:=by
 unfold fv;split<;>(rw [length_map];exact B8 ok)
section
variable {P:Program} {w:World} {K:Fg} {H:Hp}
theorem C0 {Q:VK} {E:XK} (h:rF P w K vs H Q E):HS P w K { nx:=Qn,rt:=Q } (L2.start lX vs) H:=by
 obtain ⟨wd,O,v0,d,ks,i,j,s,t,rfl,ok,nd,inH,r0,⟨f,hD⟩,hi,hj,hs,q⟩:=h;show HS P w K { nx:=Qn,rt:=Q } [some v0,some (.int (i:Int)),some (.int (j:Int)),some (.int (s:Int)),some (.int (t:Int)),some (.ref d),none] H
 have E0:EnvOk K H O (List.replicate (([KD wd.enc,KD (rm i),KD (rm j),KD (rm s),KD (rm t),none,none]:Ev)).length []) H [some v0,some (.int (i:Int)),some (.int (j:Int)),some (.int (s:Int)),some (.int (t:Int)),some (.ref d),none] [KD wd.enc,KD (rm i),KD (rm j),KD (rm s),KD (rm t),none,none]:=by
  refine jE nd inH rfl fun k x hx=>?_
  match k,hx with
  | 0,hx=>cases hx;exact ⟨rfl,_,rfl,r0⟩
  | 1,hx=>cases hx;exact ⟨rfl,_,rfl,.int _⟩
  | 2,hx=>cases hx;exact ⟨rfl,_,rfl,.int _⟩
  | 3,hx=>cases hx;exact ⟨rfl,_,rfl,.int _⟩
  | 4,hx=>cases hx;exact ⟨rfl,_,rfl,.int _⟩
  | 5,hx=>cases hx
  | 6,hx=>cases hx
  | k+7,hx=>cases hx
 show tE K W0 F6 _ H _
 refine oU inH E0 (bR (ar (aj (i:=0) rfl) (ar (aj (i:=1) rfl) (ar (aj (i:=2) rfl) (ar (aj (i:=3) rfl) (ar (aj (i:=4) rfl) ag))))) (uo ok hi hj hs) rfl rfl) rfl fun v H1 s1 r1=>?_
 cases r1 with
 | @lst p ws _ hq hl hr=>
 rw [length_map] at hl;have key:=iP (K:=K) (U:=[some v0,some (.int (i:Int)),some (.int (j:Int)),some (.int (s:Int)),some (.int (t:Int)),some (.ref d),none]) (H:=H1) (Q:=fun v H2=>eo K false [v] H2 Q) (c:=6) (tl:=fun _ H Q=>Q (.ref p) H) (te:=gG P w K (ai 6) (ai 5)) (p:=p) (ws:=ws) (row:=fv wd i j s t) (f:=fun q=>decide (q∈ks)) (fun Q' h=>h) (hid_le.seq hq) hl (uH ok) (fun k v a e1 e2 H2 Q' s2 kq=>?_) fun L H2 s2 hL hL2=>?_
 ·exact key
 ·obtain ⟨b,rfl,hb⟩:=EB (hr k v (bY a) e1 (by rw [getElem?_map,e2];rfl))
  have hb2:SqT K H2 b (pv a):=aV (hid_le.trans s2) hb
  refine ⟨.ref b,by simp [aD],.ref d,by simp [aD],d,b,[false,false],_,ky a.1 a.2,rfl,rfl,DF.grow hD (s1.trans s2),⟨_,hb2,.cons rfl (.cons rfl .nil)⟩,rfl,?_⟩
  rw [Gh];exact kq H2 (Same.refl _)
 ·refine ⟨L,(fv wd i j s t).map fun q=>decide (q∈ks),rfl,.inl (.inl hL2),?_⟩
  rw [if_neg Bool.false_ne_true,all_map];exact q H2 (s1.trans s2)
end
noncomputable def xD (P:Program) (w:World) (K:Fg) (mg:Str->Option Value) (base:Heap) (j:Nat):Prop:=
 ∃(f:Addr) (fd:FuncData) (ps:List Str),bT P w K mg base eG j f fd ps (rF P w K)/\mg "is_by_step"=some (.ref f)/\PySem.W.keepIn K (.ref f)=true/\Binds K fd ps []
noncomputable abbrev Ex (X:Cx):Prop:=∃(k:Nat) (f:Addr) (fd:FuncData) (ps:List Str),bT X.prog X.w X.K X.mg X.base eG k f fd ps (rF X.prog X.w X.K)/\Room k X.A/\X.mg "is_by_step"=some (.ref f)/\PySem.W.keepIn X.K (.ref f)=true/\Binds X.K fd ps []
noncomputable abbrev uQ:List Str:=["world", "one", "other", "known", "letter", "side", "room", "there"]
noncomputable abbrev Bo:List Str:=["LETTERS", "is_by_mark", "enumerate", "is_by_step"]
noncomputable abbrev oK:D:=.tuple [.str "a",.str "b",.str "c",.str "d",.str "e",.str "f"]
noncomputable abbrev JM:FB:=bo g4 (ah 4 bc (aa (ae 0) (aa (ae 1) (aa (ae 2) (aa (ae 4) af)))))
noncomputable abbrev IR:F1:=ak (ak (ae 0) (eK (.int 2))) (ae 6)
noncomputable def Ct (P:Program) (w:World) (K:Fg):L2.TS:=eN (tB (cF (rF P w K) [] L2.E0 (ao (ai 0) (ao (ai 1) (ao (ai 2) (ao (ai 5) (ao (ai 7) (ao (ai 3) bb)))))))) (cE (jq (ao (tC (.str "step")) (ao (ai 5) (ao (ai 7) bb))))) cN
noncomputable def HP (P:Program) (w:World) (K:Fg):L2.TS:=aS (cT (DN K (tE K W0 (eK oK))) (av 4) (eN (tT K W0 JM) (cE (jq (ao (tC (.str "mark")) (ao (ai 4) bb)))) cN))
 (aS (cT (tZ K (ao (pj (ao (ai 1) (ao (ai 2) bb))) bb)) (wX K 2 (g5 (av 5) (g5 (av 6) w4))) (cT (bf K (tE K W0 IR)) (av 7) (Ct P w K))) (cE (tC .non)))
noncomputable def J6 (o:Option xA):D:=match o with
 | none=>.none
 | some r=>bX r
noncomputable def vD (P:Program) (w:World) (K:Fg):Sp:=fun vs H Q _=>∃(wd:Wd) (O:List Addr) (v0:V) (d:Addr) (ks:List (Nat×Nat)) (i j:Nat),vs=[v0,.int (i:Int),.int (j:Int),.ref d]/\wd.Ok/\O.Nodup/\(∀a∈O,H a≠none)/\Rep K (aC H O) v0 wd.enc/\DK P w K H d ks/\i<wd.n/\j<wd.n/\∀v H',Same H H'->Rep K (aC H' O) v (J6 (pF wd ks i j))->Q v H'
noncomputable abbrev sr (v0:V) (i j:Nat) (d:Addr) (x4 x5 x6 x7:Option V):St:=[some v0,some (.int (i:Int)),some (.int (j:Int)),some (.ref d),x4,x5,x6,x7]
noncomputable abbrev GR (wd:Wd) (i j:Nat) (x4 x6:Option PV):Ev:=[KD wd.enc,KD (rm i),KD (rm j),none,x4,none,x6,none]
theorem ug {a:Addr} {xs:List V} {g:TG} {tb:L2.TS} {D:cJ} {U:St} {H:Hp} (Pv:Nat->St->Hp->Prop) (h0:Pv 0 U H) (hl:∀i U H,i<=xs.length->Pv i U H->SqL K H a xs)
  (hs:∀(i:Nat) x U H T,xs[i]?=some x->Pv i U H->H T=none->g (.ref T) U (upd H T (.tup [.int (i:Int),x])) fun U2 H2=>tb { D with nx:=Pv (i+1),ct:=Pv (i+1),bk:=D.nx } U2 H2) (hd:∀U H,Pv xs.length U H->D.nx U H) :
  ∃W:Nat->Nat->St->Hp->Prop,(∃m,W 0 m U H)/\∀i m U H,W i m U H ->
   ((BQ K a).stop i H/\D.nx U H)\/((BQ K a).go i H/\∃N:St->Hp->Prop,(∀U' H',N U' H'->∃m',m'<m/\W (i+1) m' U' H')/\∀x H',(BQ K a).yld i H x H'->g x U H' fun U2 H2=>tb { D with nx:=N,ct:=N,bk:=D.nx } U2 H2):=by
 refine ⟨fun i m U H=>m=xs.length-i/\i<=xs.length/\Pv i U H,⟨xs.length,by simp,Nat.zero_le _,h0⟩,?_⟩
 rintro i m U H ⟨rfl,hi,p⟩
 have q:=hl i U H hi p
 by_cases hlt:i<xs.length
 ·refine .inr ⟨⟨xs,xs[i],q,Ks hlt⟩,Pv (i+1),fun U' H' p'=>⟨xs.length-(i+1),by omega,rfl,hlt,p'⟩,fun x H' y=>?_⟩
  obtain ⟨T,v,rfl,hT,rfl,hv⟩:=y;have e:=hv xs q
  exact hs i v U H T e p hT
 ·have e:i=xs.length:=by omega
  subst e;exact .inl ⟨⟨xs,q,KA _⟩,hd U H p⟩
theorem oS {α:Type} {L:List α} {p:α->Bool} {m:Nat} {t:α} (h:∀x∈L.take m,p x=false) (e:L[m]?=some t) (hp:p t=true):L.find? p=some t:=by
 have e2:L=L.take m++t::L.drop (m+1):=by
  obtain ⟨h1,h2⟩:=Kw e
  rw [<-h2,<-drop_eq_getElem_cons h1,take_append_drop]
 rw [e2,find?_append,List.find?_eq_none.mpr fun x hx=>by rw [h x hx];exact Bool.false_ne_true]
 simp [hp]
theorem xq {ks:List (Nat×Nat)} {i j k m:Nat} (hk:k<=1) (h0:∀p∈jN wd i j,p.1<k->gB wd ks i j p.1 p.2=false) (h:∀x∈(wd.stp (if k=0 then i else j)).take m,gB wd ks i j k x=false) (e:(wd.stp (if k=0 then i else j))[m]?=some t) (hp:gB wd ks i j k t=true):((jN wd i j).find? fun p=>gB wd ks i j p.1 p.2)=some (k,t):=by
 unfold jN;rw [find?_append];match k,hk with
 | 0,_=>
  rw [if_pos rfl] at h e
  rw [oS (L:=(wd.stp i).map fun t=>(0,t)) (m:=m) (t:=(0,t)) (fun x hx=>by
   rw [<-List.map_take] at hx;obtain ⟨y,hy,rfl⟩:=List.mem_map.mp hx;exact h y hy) (by rw [getElem?_map,e];rfl) hp]
  rfl
 | 1,_=>
  rw [if_neg (by decide)] at h e
  rw [List.find?_eq_none.mpr (fun x hx=>by rw [h0 x (Kp _ hx) (by obtain ⟨y,_,rfl⟩:=List.mem_map.mp hx;exact Nat.zero_lt_one)];exact Bool.false_ne_true),oS (L:=(wd.stp j).map fun t=>(1,t)) (m:=m) (t:=(1,t)) (fun x hx=>by
   rw [<-List.map_take] at hx;obtain ⟨y,hy,rfl⟩:=List.mem_map.mp hx;exact h y hy) (by rw [getElem?_map,e];rfl) hp]
  rfl
theorem wG:∀c∈letters,PyData.strOk c=true:=by decide +kernel
section
variable {P:Program} {w:World} {K:Fg} {H:Hp}
theorem CV {Q:VK} {E:XK} (h:vD P w K vs H Q E):HP P w K { nx:=Qn,rt:=Q } (L2.start uQ vs) H:=by
 obtain ⟨wd,O,v0,d,ks,i,j,rfl,ok,nd,inH,r0,hD,hi,hj,q⟩:=h;show HP P w K { nx:=Qn,rt:=Q } (sr v0 i j d none none none none) H
 have inS:∀{H'},Same H H'->∀a∈O,H' a≠none:=fun {H'} s a ha=>by
  cases e:H a with
  | none=>exact absurd e (inH a ha)
  | some u=>rw [s a u e];exact Option.some_ne_none _
 have mono:∀{H'},Same H H'->Same (aC H O) (aC H' O):=fun s=>dW s fun a ha=>.inl ha
 have EE:∀(H':Hp) (x4 x5 x6 x7:Option V) (y4 y6:Option PV),Same H H'->(∀p,y4=some p->p.s=.leaf/\∃v,x4=some v/\Rep K (aC H' O) v p.d)->(∀p,y6=some p->p.s=.leaf/\∃v,x6=some v/\Rep K (aC H' O) v p.d)->EnvOk K H' O (List.replicate (GR wd i j y4 y6).length []) H' (sr v0 i j d x4 x5 x6 x7) (GR wd i j y4 y6):=fun H' x4 x5 x6 x7 y4 y6 s h4 h6=>by
  refine jE nd (inS s) rfl fun n x hx=>?_
  match n,hx with
  | 0,hx=>cases hx;exact ⟨rfl,_,rfl,r0.mono (mono s)⟩
  | 1,hx=>cases hx;exact ⟨rfl,_,rfl,.int _⟩
  | 2,hx=>cases hx;exact ⟨rfl,_,rfl,.int _⟩
  | 3,hx=>cases hx
  | 4,hx=>
   have:y4=some x:=by simpa using hx
   obtain ⟨a,v,e,r⟩:=h4 x this;exact ⟨a,v,by rw [e];rfl,r⟩
  | 5,hx=>cases hx
  | 6,hx=>
   have:y6=some x:=by simpa using hx
   obtain ⟨a,v,e,r⟩:=h6 x this;exact ⟨a,v,by rw [e];rfl,r⟩
  | 7,hx=>cases hx
  | n+8,hx=>cases hx
 refine oU (W:=W0) inH (EE H none none none none none none (Same.refl _) (fun _ z=>nomatch z) (fun _ z=>nomatch z)) (aK (d:=oK)) rfl fun v H1 s1 r1=>?_
 have r1:Rep K (aC H1 O) v (.tuple (letters.map .str)):=r1
 cases r1 with
 | @tup pl ls _ hql hll hrl=>
 have hls:ls=letters.map V.str:=by
  apply ext_getElem?
  intro k;rw [length_map] at hll;by_cases hk:k<ls.length
  ·have hk2:k<letters.length:=by omega
   have rr:=hrl k ls[k] (.str letters[k]) (Ks hk) (by rw [getElem?_map,Ks hk2];rfl)
   rw [Ks hk,getElem?_map,Ks hk2];generalize ls[k]=u at rr
   cases rr;rfl
  ·rw [getElem?_eq_none (by omega),getElem?_eq_none (by rw [length_map];omega)]
 subst hls;refine ⟨pl,rfl,⟨_,aV hid_le hql⟩,?_⟩
 refine w6 (xs:=letters.map V.str) (fun k U' H'=>(∃x4,U'=sr v0 i j d x4 none none none)/\Same H1 H'/\(letters.take k).find? (uz wd i j)=none) ⟨⟨_,rfl⟩,Same.refl _,rfl⟩ (fun k U' H' _ h=>aV (hid_le.trans h.2.1) hql) (fun k u U' H' e h=>?_) fun U' H' h=>?_
 ·obtain ⟨⟨x4,rfl⟩,s2,hno⟩:=h
  rw [getElem?_map] at e;obtain ⟨c,ec,rfl⟩:=Option.map_eq_some_iff.mp e;have hcl:c∈letters:=mem_of_getElem? ec
  have s12:=s1.trans s2
  show tT K W0 JM (sr v0 i j d (some (.str c)) none none none) H' _
  refine AQ (EE H' (some (.str c)) none none none (KD (.str c)) none s12 (fun p z=>by cases z;exact ⟨rfl,_,rfl,.str c⟩) (fun _ z=>nomatch z)) (lU (s:=.leaf) (bR (ar (aj (i:=0) rfl) (ar (aj (i:=1) rfl) (ar (aj (i:=2) rfl) (ar (aj (i:=4) rfl) ag)))) (ur ok hi hj (wG c hcl)) rfl rfl)) fun H3 s3=>?_
  have htk:letters.take (k+1)=letters.take k++[c]:=by rw [take_succ,ec];rfl
  cases eb:uz wd i j c with
  | true=>
   have er:pF wd ks i j=some (.mk c):=by
    unfold pF;have:letters.find? (uz wd i j)=some c:=by
     have e2:letters=letters.take (k+1)++letters.drop (k+1):=(take_append_drop _ _).symm
     rw [e2,find?_append,htk,find?_append,hno];simp [eb]
    rw [this]
   refine ck ⟨_,rfl,Nat.le_trans (by decide:2<=1000) (by decide),fun p hp=>?_⟩
   refine q _ _ ((s12.trans s3).trans (cb hp)) ?_
   rw [er];refine .tup (.inl (.inl (h9 bL fun z=>inS (s12.trans s3) p z hp))) rfl fun n x dd h1 h2=>?_
   match n,h1,h2 with
   | 0,h1,h2=>cases h1;cases h2;exact .str _
   | 1,h1,h2=>cases h1;cases h2;exact .str _
   | n+2,h1,h2=>cases h1
  | false=>
   refine cn ⟨⟨_,rfl⟩,s2.trans s3,?_⟩
   rw [htk,find?_append,hno];simp [eb]
 ·obtain ⟨⟨x4,rfl⟩,s2,hno⟩:=h
  rw [length_map,take_length] at hno;have er:pF wd ks i j=((jN wd i j).find? fun p=>gB wd ks i j p.1 p.2).map fun p=>.st (p.1:Int) (p.2:Int):=by
   unfold pF;rw [hno]
  rw [er] at q;have s12:=s1.trans s2
  refine ⟨_,rfl,_,rfl,Nat.le_trans (by decide:2<=1000) (by decide),fun l hl=>⟨l,rfl,⟨_,.inl (.inl bL)⟩,?_⟩⟩
  have hl2:upd H' l (.lst [.int (i:Int),.int (j:Int)]) l=some (.lst [.int (i:Int),.int (j:Int)]):=bL
  have sl:Same H (upd H' l (.lst [.int (i:Int),.int (j:Int)])):=s12.trans (cb hl)
  generalize upd H' l (.lst [.int (i:Int),.int (j:Int)])=H2 at *
  refine ug (xs:=[.int (i:Int),.int (j:Int)]) (fun k U' H'=>(∃x5 x6 x7,U'=sr v0 i j d x4 x5 x6 x7)/\Same H2 H'/\∀p∈jN wd i j,p.1<k->gB wd ks i j p.1 p.2=false) ⟨⟨_,_,_,rfl⟩,Same.refl _,fun p _ z=>absurd z (Nat.not_lt_zero _)⟩ (fun k U' H' _ h=>.inl (.inl (h.2.1 _ _ hl2))) (fun k u U' H' T e h hT=>?_) fun U' H' h=>?_
  ·obtain ⟨⟨x5,x6,x7,rfl⟩,s3,hno2⟩:=h
   have hk:k<=1:=by
    have:=(Kw e).1
    simp at this
    omega
   have eu:u=.int ((if k=0 then i else j:Nat):Int):=by
    match k,hk with
    | 0,_=>cases e;rfl
    | 1,_=>cases e;rfl
   subst eu;have hrn:(if k=0 then i else j)<wd.n:=by split<;>assumption
   have sT:Same H (upd H' T (.tup [.int (k:Int),.int ((if k=0 then i else j:Nat):Int)])):=(sl.trans s3).trans (cb hT)
   have sT2:Same H2 (upd H' T (.tup [.int (k:Int),.int ((if k=0 then i else j:Nat):Int)])):=s3.trans (cb hT)
   refine ⟨T,_,rfl,.inl (.inl bL),rfl,_,_,rfl,_,_,rfl,rfl,?_⟩
   generalize upd H' T (.tup [.int (k:Int),.int ((if k=0 then i else j:Nat):Int)])=H3 at *
   generalize hr:(if k=0 then i else j)=r at *
   show cT (bf K (tE K W0 IR)) (av 7) (Ct P w K) _ (sr v0 i j d x4 (some (.int (k:Int))) (some (.int (r:Int))) x7) H3
   have ex:IR (GR wd i j none (KD (rm r)))=.ok ⟨.leaf,.list (((wd.stp r).map fun t:Nat=>(t:Int)).map .int)⟩ (GR wd i j none (KD (rm r))):=by
    have e:PyData.list (((wd.stp r).map fun t:Nat=>(t:Int)).map .int)=bG (wd.stp r):=by
     show PyData.list _=PyData.list _
     rw [map_map];rfl
    rw [e];exact xR ok (i:=0) (s:=.leaf) rfl (aj (i:=6) rfl) hrn
   refine IT (EE H3 x4 (some (.int (k:Int))) (some (.int (r:Int))) x7 none (KD (rm r)) sT (fun _ z=>nomatch z) (fun p z=>by cases z;exact ⟨rfl,_,rfl,.int _⟩)) ex fun pa H4 s4 hp=>?_
   have hp:SqL K H4 pa ((wd.stp r).map fun t:Nat=>V.int (t:Int)):=by
    have:=hp
    rw [map_map] at this;exact this
   refine ⟨pa,rfl,⟨_,hp⟩,?_⟩
   refine yT (xs:=(wd.stp r).map fun t:Nat=>V.int (t:Int)) (fun m U' H'=>(∃x7,U'=sr v0 i j d x4 (some (.int (k:Int))) (some (.int (r:Int))) x7)/\Same H4 H'/\∀x∈(wd.stp r).take m,gB wd ks i j k x=false) ⟨⟨_,rfl⟩,Same.refl _,fun x hx=>by simp at hx⟩ (fun m U' H' _ h=>h.2.1.seq hp) (fun m u U' H' e h=>?_) fun U' H' h=>?_
   ·obtain ⟨⟨x7,rfl⟩,s5,hno3⟩:=h
    rw [getElem?_map] at e;obtain ⟨t,et,rfl⟩:=Option.map_eq_some_iff.mp e;have sA:Same H H':=(sT.trans s4).trans s5
    refine ⟨v0,rfl,_,rfl,_,rfl,_,rfl,_,rfl,.ref d,rfl,wd,O,v0,d,ks,i,j,k,t,rfl,ok,nd,inS sA,r0.mono (mono sA),hD.grow sA,hi,hj,hk,fun H5 s6=>⟨_,rfl,?_⟩⟩
    cases eb:gB wd ks i j k t with
    | true=>
     have ef:=xq hk hno2 (by rw [hr];exact hno3) (by rw [hr];exact et) eb
     refine ck ⟨_,rfl,_,rfl,Nat.le_trans (by decide:3<=1000) (by decide),fun p hpn=>?_⟩
     refine q _ _ ((sA.trans s6).trans (cb hpn)) ?_
     rw [ef];refine .tup (.inl (.inl (h9 bL fun z=>inS (sA.trans s6) p z hpn))) rfl fun n x dd h1 h2=>?_
     match n,h1,h2 with
     | 0,h1,h2=>cases h1;cases h2;exact .str _
     | 1,h1,h2=>cases h1;cases h2;exact .int _
     | 2,h1,h2=>cases h1;cases h2;exact .int _
     | n+3,h1,h2=>cases h1
    | false=>
     refine cn ⟨⟨_,rfl⟩,s5.trans s6,fun x hx=>?_⟩
     rw [take_succ,et] at hx;rcases Kq hx with z | z
     ·exact hno3 x z
     ·have:x=t:=by simpa using z
      rw [this];exact eb
   ·obtain ⟨⟨x7,rfl⟩,s5,hno3⟩:=h
    rw [length_map,take_length] at hno3;refine ⟨⟨_,_,_,rfl⟩,(sT2.trans s4).trans s5,fun p hp hpk=>?_⟩
    by_cases hlt:p.1<k
    ·exact hno2 p hp hlt
    ·have epk:p.1=k:=by omega
     rw [epk];refine hno3 p.2 ?_
     rw [<-hr];rcases G5 hp with z | z
     ·rw [if_pos (by omega)];exact z.2
     ·rw [if_neg (by omega)];exact z.2
  ·obtain ⟨⟨x5,x6,x7,rfl⟩,s3,hno2⟩:=h
   refine q _ _ (sl.trans s3) ?_
   have:((jN wd i j).find? fun p=>gB wd ks i j p.1 p.2)=none:=List.find?_eq_none.mpr fun p hp=>by
    rw [hno2 p hp (by rcases G5 hp with z | z<;>(rw [z.1];simp))]
    exact Bool.false_ne_true
   rw [this];exact .non
end
noncomputable def Bh (P:Program) (w:World) (K:Fg) (mg:Str->Option Value) (base:Heap) (j:Nat):Prop:=
 ∃(f:Addr) (fd:FuncData) (ps:List Str),bT P w K mg base eG j f fd ps (vD P w K)/\mg "reason_for"=some (.ref f)/\PySem.W.keepIn K (.ref f)=true/\Binds K fd ps []
noncomputable abbrev Jg (X:Cx):Prop:=∃(k:Nat) (f:Addr) (fd:FuncData) (ps:List Str),bT X.prog X.w X.K X.mg X.base eG k f fd ps (vD X.prog X.w X.K)/\Room k X.A/\X.mg "reason_for"=some (.ref f)/\PySem.W.keepIn X.K (.ref f)=true/\Binds X.K fd ps []
noncomputable abbrev uP:List Str:=["world", "known", "rows", "one", "other", "reason"]
noncomputable abbrev Bn:List Str:=["range", "len", "reason_for"]
noncomputable abbrev C7:R2:=fun x y H Q=>y=.non/\Q (.bl (!decide (x=.non))) H
noncomputable def HK (P:Program) (w:World) (K:Fg):TE:=HQ (tB (gG P w K (Cw 3 4) (ai 1))) (tC .non) (cF (vD P w K) [] L2.E0 (ao (ai 0) (ao (ai 3) (ao (ai 4) (ao (ai 1) bb)))))
noncomputable def zb (P:Program) (w:World) (K:Fg):L2.TS:=aS (b5 (HK P w K) (av 5)) (eN (nG (rz C7 (ai 5) (tC .non))) (df (FJ K "list" ET (ai 2) (ao (jq (ao (ai 3) (ao (ai 4) (ao (ai 5) bb)))) bb))) cN)
noncomputable def HN (P:Program) (w:World) (K:Fg):L2.TS:=aS (b5 (pj bb) (av 2)) (aS (cT (gZ (ao (ze K) bb)) (av 3) (cT (gZ (ao (ze K) bb)) (av 4) (zb P w K))) (cE (ai 2)))
noncomputable def vC (P:Program) (w:World) (K:Fg):Sp:=fun vs H Q _=>∃(wd:Wd) (O:List Addr) (v0:V) (d:Addr) (ks:List (Nat×Nat)),vs=[v0,.ref d]/\wd.Ok/\O.Nodup/\(∀a∈O,H a≠none)/\Rep K (aC H O) v0 wd.enc/\DK P w K H d ks/\∀v H',Same H H'->Rep K (aC H' O) v (.list ((iU wd ks).map bF))->Q v H'
theorem Ib {H:Hp} {p:Addr} {i j:Nat} {v:V} {r:xA} (h:SqT K H p [.int (i:Int),.int (j:Int),v]) (hr:Rep K H v (bX r)):Rep K H (.ref p) (bF ((i,j),r)):=.tup h rfl fun n x d h1 h2=>by
 match n,h1,h2 with
 | 0,h1,h2=>cases h1;cases h2;exact .int _
 | 1,h1,h2=>cases h1;cases h2;exact .int _
 | 2,h1,h2=>cases h1;cases h2;exact hr
 | n+3,h1,h2=>cases h1
theorem Ah (h24:wd.n<=24) {ks:List (Nat×Nat)} {i j:Nat} (hi:i<=wd.n) (hj:j<=wd.n):((ik wd.n i j).filterMap (mJ wd ks)).length<1000:=by
 have a:=List.length_filterMap_le (mJ wd ks) (ik wd.n i j)
 rw [GJ] at a;have:i*wd.n<=24*24:=Nat.mul_le_mul (by omega) h24
 omega
section
variable {P:Program} {w:World} {K:Fg} {H:Hp}
theorem CU {Q:VK} {E:XK} (h:vC P w K vs H Q E):HN P w K { nx:=Qn,rt:=Q } (L2.start uP vs) H:=by
 obtain ⟨wd,O,v0,d,ks,rfl,ok,nd,inH,r0,hD,q⟩:=h;have h24:=ok.h24
 have hbz:(1000:Nat)<=sizeLine:=by decide
 show HN P w K { nx:=Qn,rt:=Q } [some v0,some (.ref d),none,none,none,none] H
 refine ⟨Nat.zero_le _,fun l hl=>?_⟩
 have inS:∀{H'},Same H H'->∀a∈O,H' a≠none:=fun {H'} s a ha=>by
  cases e:H a with
  | none=>exact absurd e (inH a ha)
  | some u=>rw [s a u e];exact Option.some_ne_none _
 have hlO:l∉O:=fun z=>inH l z hl
 have nd2:(l::O).Nodup:=List.nodup_cons.mpr ⟨hlO,nd⟩
 have mo:∀{H'},Same H H'->Same (aC H O) (aC H' (l::O)):=fun s=>dW s fun a ha=>by
  rcases Kr ha with rfl | ha
  ·exact .inr hl
  ·exact .inl ha
 show cT (gZ (ao (ze K) bb)) (av 3) (cT (gZ (ao (ze K) bb)) (av 4) (zb P w K)) _ [some v0,some (.ref d),some (.ref l),none,none,none] _
 refine yf ok r0 (hid_le.trans (cb hl)) rfl ⟨(wd.n:Int),rfl,by omega,by omega,?_⟩
 let Z (H':Hp) (rows:List Row):Prop:=∃us:List V,H' l=some (.lst us)/\us.length=rows.length/\∀(k:Nat) u r,us[k]?=some u->rows[k]?=some r->Rep K (aC H' (l::O)) u (bF r)
 have Zg:∀{H' H'':Hp} {rows},Z H' rows->Same H' H''->Z H'' rows:=fun ⟨us,h1,h2,h3⟩ s=>⟨us,s _ _ h1,h2,fun k u r e1 e2=>(h3 k u r e1 e2).mono (dW s fun a ha=>.inl ha)⟩
 refine i7 (n:=wd.n) (fun i U' H'=>(∃x3 x4 x5,U'=[some v0,some (.ref d),some (.ref l),x3,x4,x5])/\Same H H'/\Z H' ((ik wd.n i 0).filterMap (mJ wd ks))) ⟨⟨_,_,_,rfl⟩,cb hl,[],bL,by simp [ik],fun k u r e=>by simp at e⟩ (fun i U' H' hi h=>?_) fun U' H' h=>?_
 ·obtain ⟨⟨x3,x4,x5,rfl⟩,s1,z1⟩:=h
  rw [Int.zero_add];show cT (gZ (ao (ze K) bb)) (av 4) (zb P w K) _ [some v0,some (.ref d),some (.ref l),some (.int (i:Int)),x4,x5] H'
  refine yf ok r0 (hid_le.trans s1) rfl ⟨(wd.n:Int),rfl,by omega,by omega,?_⟩
  refine i7 (n:=wd.n) (fun j U' H'=>(∃x4 x5,U'=[some v0,some (.ref d),some (.ref l),some (.int (i:Int)),x4,x5])/\Same H H'/\Z H' ((ik wd.n i j).filterMap (mJ wd ks))) ⟨⟨_,_,rfl⟩,s1,z1⟩ (fun j U' H' hj h=>?_) fun U' H' h=>?_
  ·obtain ⟨⟨x4,x5,rfl⟩,s2,z2⟩:=h
   rw [Int.zero_add];have inS2:∀{H''},Same H' H''->∀a∈l::O,H'' a≠none:=fun {H''} s a ha=>by
    rcases Kr ha with rfl | ha
    ·obtain ⟨us,h1,_⟩:=z2
     rw [s _ _ h1];exact Option.some_ne_none _
    ·exact inS (s2.trans s) a ha
   have enx:(ik wd.n i (j+1)).filterMap (mJ wd ks)=(ik wd.n i j).filterMap (mJ wd ks)++(mJ wd ks (i,j)).toList:=by
    rw [kD,List.filterMap_append];congr 1
   have nn:mJ wd ks (i,j)=if (i,j)∈ks then none else (pF wd ks i j).map fun r=>((i,j),r):=rfl
   obtain ⟨f,hDf⟩:=id hD;refine ⟨_,rfl,_,rfl,vl,fun b hb=>⟨.ref d,rfl,d,b,[false,false],_,ky i j,rfl,rfl,DF.grow hDf (s2.trans (cb hb)),BW,rfl,_,rfl,?_⟩⟩
   have sb:Same H' (upd H' b (.tup [.int (i:Int),.int (j:Int)])):=cb hb
   rw [Gh (p:=(i,j))];generalize upd H' b (.tup [.int (i:Int),.int (j:Int)])=H3 at sb
   have s3:=s2.trans sb
   by_cases hin:(i,j)∈ks
   ·rw [decide_eq_true hin]
    refine ck ⟨_,rfl,rfl,_,rfl,cn ⟨⟨_,_,rfl⟩,s3,?_⟩⟩
    rw [enx,nn,if_pos hin];simpa using Zg z2 sb
   ·rw [decide_eq_false hin]
    refine cn ⟨v0,rfl,_,rfl,_,rfl,.ref d,rfl,wd,l::O,v0,d,ks,i,j,rfl,ok,nd2,inS2 sb,r0.mono (mo s3),hD.grow s3,hi,hj,fun v5 H4 s4 r5=>?_⟩
    have s34:=s3.trans s4
    have z4:=Zg z2 (sb.trans s4)
    cases er:pF wd ks i j with
    | none=>
     rw [er] at r5;have r5:Rep K (aC H4 (l::O)) v5 .none:=r5
     cases r5;refine ⟨_,rfl,rfl,_,rfl,cn ⟨⟨_,_,rfl⟩,s34,?_⟩⟩
     rw [enx,nn,if_neg hin,er];simpa using z4
    | some r=>
     rw [er] at r5;have r5:Rep K (aC H4 (l::O)) v5 (bX r):=r5
     have hne:decide (v5=V.non)=false:=decide_eq_false fun z=>by
      subst z
      cases r<;>(unfold bX at r5;cases r5)
     obtain ⟨us,u1,u2,u3⟩:=z4;refine ⟨v5,rfl,rfl,_,rfl,?_⟩
     rw [hne];refine ck ⟨.ref l,rfl,.inl ⟨rfl,_,.of u1⟩,_,rfl,_,rfl,v5,rfl,Nat.le_trans (by decide:3<=1000) (by decide),fun p hp=>?_⟩
     have sp:Same H4 (upd H4 p (.tup [.int (i:Int),.int (j:Int),v5])):=cb hp
     have hpl:p≠l:=fun z=>by rw [z,u1] at hp;cases hp
     have hlp:upd H4 p (.tup [.int (i:Int),.int (j:Int),v5]) l=some (.lst us):=sp _ _ u1
     refine ⟨l,us,.ref p,rfl,rfl,hlp,by rw [u2];have:=Ah h24 (ks:=ks) (i:=i) (j:=j) (by omega) (by omega);omega,⟨_,_,rfl⟩,fun c o hc=>?_,us++[.ref p],bL,?_,fun k u r' e1 e2=>?_⟩
     ·rw [bw (fun z=>by subst z;rw [hl] at hc;cases hc)]
      exact sp c o (s34 c o hc)
     ·rw [enx,nn,if_neg hin,er]
      simp [u2]
     ·rw [hid_upd mem_cons_self]
      rw [enx,nn,if_neg hin,er] at e2;by_cases hk:k<us.length
      ·rw [getElem?_append_left hk] at e1
       rw [getElem?_append_left (by omega)] at e2
       exact (u3 k u r' e1 e2).mono (dW sp fun a ha=>.inl ha)
      ·rw [getElem?_append_right (by omega)] at e1
       rw [getElem?_append_right (by omega)] at e2
       have h0:k-us.length=0:=by
        have:=(Kw e1).1
        simp at this
        omega
       rw [h0] at e1;rw [<-u2,h0] at e2
       cases e1
       cases e2;have r5':Rep K (aC (upd H4 p (.tup [.int (i:Int),.int (j:Int),v5])) (l::O)) v5 (bX r):=r5.mono (dW sp fun a ha=>.inl ha)
       refine Ib (.inl (.inl (h9 bL fun z=>?_))) r5'
       rcases Kr z with y | y
       ·exact hpl y
       ·exact inS s34 p y hp
  ·obtain ⟨⟨x4,x5,rfl⟩,s2,z2⟩:=h
   refine ⟨⟨_,_,_,rfl⟩,s2,?_⟩
   rw [kE];exact z2
 ·obtain ⟨⟨x3,x4,x5,rfl⟩,s1,us,u1,u2,u3⟩:=h
  refine ⟨.ref l,rfl,q _ _ s1 (.lst (.inl (.inl (h9 u1 hlO))) (by rw [length_map];exact u2) fun k u dd e1 e2=>?_)⟩
  rw [getElem?_map] at e2;obtain ⟨r,er,rfl⟩:=Option.map_eq_some_iff.mp e2;exact (u3 k u r e1 er).mono (GA fun a ha=>Ku _ ha)
end
noncomputable def Bg (P:Program) (w:World) (K:Fg) (mg:Str->Option Value) (base:Heap) (j:Nat):Prop:=
 ∃(f:Addr) (fd:FuncData) (ps:List Str),bT P w K mg base eG j f fd ps (vC P w K)/\mg "rows_next"=some (.ref f)/\PySem.W.keepIn K (.ref f)=true/\Binds K fd ps []
noncomputable abbrev Ew (X:Cx):Prop:=∃(k:Nat) (f:Addr) (fd:FuncData) (ps:List Str),bT X.prog X.w X.K X.mg X.base eG k f fd ps (vC X.prog X.w X.K)/\Room k X.A/\X.mg "rows_next"=some (.ref f)/\PySem.W.keepIn X.K (.ref f)=true/\Binds X.K fd ps []
noncomputable abbrev uT:List Str:=["world", "known", "fresh", "row"]
noncomputable abbrev Br:List Str:=["rows_next"]
noncomputable def Jn (K:Fg) (i:Nat):TT:=fun U H Q=>ai i U H fun x H'=>∃k,uM K x H' k/\Q k H'
noncomputable abbrev zf (K:Fg) (v:Nat) (i:Int):TE:=rz (Dd K) (ai v) (tC (.int i))
noncomputable abbrev Cu (K:Fg) (v:Nat):TE:=jq (ao (zf K v 0) (ao (zf K v 1) bb))
noncomputable abbrev rB (P:Program) (w:World) (K:Fg):TE:=cF (vC P w K) [] L2.E0 (ao (ai 0) (ao (ai 1) bb))
noncomputable def CA (P:Program) (w:World) (K:Fg):L2.TS:=aS (cT (bf K (ai 2)) (av 3) (GV P w K (ai 1) (Cu K 3) (ai 3))) (b5 (rB P w K) (av 2))
noncomputable def HU (P:Program) (w:World) (K:Fg):L2.TS:=aS (b5 (B2 P w K [false,false]) (av 1)) (aS (b5 (rB P w K) (av 2)) (aS (xK (Jn K 2) (CA P w K)) (cE (ai 1))))
structure KV (P:Program) (w:World) (K:Fg) (H:Hp) (O:List Addr) (d:Addr) (known:List Row):Prop where
 h:∃f,DF P w K H d (known.map (·.1)) f/\∀r∈known,Rep K (aC H O) (f r.1) (bF r)
theorem tR {ks:List (Nat×Nat)} {q:Nat×Nat} {f:Nat×Nat->V} {v:V} (h:q∉ks):pY ks f++[(ky q.1 q.2,v)]=pY (ks++[q]) (fun p=>if p=q then v else f p):=by
 unfold pY;rw [map_append];congr 1
 ·refine map_congr_left fun p hp=>?_
  show _=(ky p.1 p.2,if p=q then v else f p)
  rw [if_neg (fun z:p=q=>h (by rw [<-z];exact hp))]
 ·show _=[(ky q.1 q.2,if q=q then v else f q)]
  rw [if_pos rfl]
section
variable {P:Program} {w:World} {K:Fg} {H H':Hp} {O:List Addr} {d:Addr} {known:List Row}
theorem KV.grow (h:KV P w K H O d known) (s:Same H H'):KV P w K H' O d known:=let ⟨f,h1,h2⟩:=h.h;⟨f,h1.grow s,fun r hr=>(h2 r hr).mono (dW s fun a ha=>.inl ha)⟩
theorem GN {v:V} {r:Row} (h:Rep K H v (bF r)):∃p u,v=.ref p/\SqT K H p [.int (r.1.1:Int),.int (r.1.2:Int),u]/\Rep K H u (bX r.2):=by
 cases h with
 | @tup p vs _ hq hl hr=>
 match vs,hl with
 | [a,b,c],_=>
  have h0:=hr 0 a _ rfl rfl
  have h1:=hr 1 b _ rfl rfl
  have h2:=hr 2 c _ rfl rfl
  cases h0
  cases h1;exact ⟨p,c,rfl,hq,h2⟩
noncomputable def vF (P:Program) (w:World) (K:Fg):Sp:=fun vs H Q _=>∃(wd:Wd) (O:List Addr) (v0:V),vs=[v0]/\wd.Ok/\O.Nodup/\(∀a∈O,H a≠none)/\Rep K (aC H O) v0 wd.enc/\∀d H',Same H H'->H d=none->KV P w K H' (d::O) d (bQ wd)->Q (.ref d) H'
theorem C2 {Q:VK} {E:XK} (h:vF P w K vs H Q E):HU P w K { nx:=Qn,rt:=Q } (L2.start uT vs) H:=by
 obtain ⟨wd,O,v0,rfl,ok,nd,inH,r0,q⟩:=h;have h24:=ok.h24
 have hbz:(1000:Nat)<=sizeLine:=by decide
 show HU P w K { nx:=Qn,rt:=Q } [some v0,none,none,none] H
 refine fun d ob hd hD=>?_
 have hdO:d∉O:=fun z=>inH d z hd
 have nd2:(d::O).Nodup:=List.nodup_cons.mpr ⟨hdO,nd⟩
 have mo:∀{H'},Same H H'->Same (aC H O) (aC H' (d::O)):=fun s=>dW s fun a ha=>by
  rcases Kr ha with rfl | ha
  ·exact .inr hd
  ·exact .inl ha
 have in2:∀{H'},Same H H'->H' d≠none->∀a∈d::O,H' a≠none:=fun {H'} s hd' a ha=>by
  rcases Kr ha with rfl | ha
  ·exact hd'
  ·cases e:H a with
   | none=>exact absurd e (inH a ha)
   | some u=>rw [s a u e];exact Option.some_ne_none _
 have ext:∀{H' known},KV P w K H' (d::O) d known->H' d≠none:=fun k=>by
  obtain ⟨f,⟨xs,h,_⟩,_⟩:=k.h;rw [h];exact Option.some_ne_none _
 have k0:KV P w K (upd H d ob) (d::O) d []:=⟨fun _=>.non,hD,fun r z=>nomatch z⟩
 have s0:Same H (upd H d ob):=cb hd
 have call:∀(H':Hp) (known:List Row) (x2 x3:Option V) (D:cJ),Same H H'->KV P w K H' (d::O) d known->(∀v2 H2,Same H' H2->Rep K (aC H2 (d::O)) v2 (.list ((iU wd (known.map (·.1))).map bF))->D.nx [some v0,some (.ref d),some v2,x3] H2)->b5 (rB P w K) (av 2) D [some v0,some (.ref d),x2,x3] H':=fun H' known x2 x3 D s kv hq=>by
  refine ⟨v0,rfl,.ref d,rfl,wd,d::O,v0,d,known.map (·.1),rfl,ok,nd2,in2 s (ext kv),r0.mono (mo s),(let ⟨f,h1,_⟩:=kv.h;⟨f,h1⟩),fun v H2 s2 r2=>hq v H2 s2 r2⟩
 generalize upd H d ob=H1 at k0 s0
 show aS (b5 (rB P w K) (av 2)) (aS (xK (Jn K 2) (CA P w K)) (cE (ai 1))) _ [some v0,some (.ref d),none,none] H1
 refine call H1 [] none none _ s0 k0 fun v2 H2 s2 r2=>?_
 refine ⟨fun m U H'=>∃known v2 x3,U=[some v0,some (.ref d),some v2,x3]/\Same H H'/\KV P w K H' (d::O) d known/\Rep K (aC H' (d::O)) v2 (.list ((iU wd (known.map (·.1))).map bF))/\KI wd known/\576-known.length<m/\lW wd m known=bQ wd,⟨1000,[],v2,none,rfl,s0.trans s2,k0.grow s2,r2,KI.nil,by simp,rfl⟩,?_⟩
 rintro m U H' ⟨known,v2,x3,rfl,s,kv,r,ki,hm,ha⟩
 cases m with
 | zero=>exact absurd hm (Nat.not_lt_zero _)
 | succ m=>
 cases r with
 | @lst l us _ hl hlen hr=>
 rw [length_map] at hlen;refine ⟨.ref l,rfl,!us.isEmpty,.inl ⟨_,hid_le.seq hl,rfl⟩,?_⟩
 unfold lW at ha
 cases us with
 | nil=>
  have e:iU wd (known.map (·.1))=[]:=List.length_eq_zero_iff.mp hlen.symm
  rw [e] at ha;have ha:known=bQ wd:=ha
  subst ha;exact cn ⟨.ref d,rfl,q d H' s hd kv⟩
 | cons u0 us0=>
 generalize hus:u0::us0=us at *
 have hpos:0<us.length:=by rw [<-hus];simp
 have hne:(!us.isEmpty)=true:=by rw [<-hus];rfl
 have hfe:(iU wd (known.map (·.1))).isEmpty=false:=by
  cases e:iU wd (known.map (·.1)) with
  | nil=>rw [e] at hlen;simp at hlen;rw [hlen] at hpos;exact absurd hpos (Nat.lt_irrefl _)
  | cons a b=>rfl
 rw [hfe,if_neg Bool.false_ne_true] at ha;rw [hne];refine ck ⟨fun U' H'=>∃m',m'<m+1/\∃known v2 x3,U'=[some v0,some (.ref d),some v2,x3]/\Same H H'/\KV P w K H' (d::O) d known/\Rep K (aC H' (d::O)) v2 (.list ((iU wd (known.map (·.1))).map bF))/\KI wd known/\576-known.length<m'/\lW wd m' known=bQ wd,fun U' H' z=>z,?_⟩
 have kst:=ki.step
 have klen:=kst.len h24
 generalize hfr:iU wd (known.map (·.1))=fr at *
 have ndA:=kst.nd
 refine ⟨.ref l,rfl,l,rfl,⟨_,hid_le.seq hl⟩,?_⟩
 refine yT (xs:=us) (fun k U' H'=>(∃x3,U'=[some v0,some (.ref d),some (.ref l),x3])/\Same H H'/\Same (aC H' (d::O)) (aC H' (d::O))/\KV P w K H' (d::O) d (known++fr.take k)/\SqL K (aC H' (d::O)) l us/\∀(i:Nat) v r,us[i]?=some v->fr[i]?=some r->Rep K (aC H' (d::O)) v (bF r)) ⟨⟨_,rfl⟩,s,Same.refl _,by simpa using kv,hl,fun i v r h1 h2=>hr i v _ h1 (by rw [getElem?_map,h2];rfl)⟩ (fun k U' H' _ h=>hid_le.seq h.2.2.2.2.1) (fun k v U' H3 e h=>?_) fun U' H3 h=>?_
 ·obtain ⟨⟨x3,rfl⟩,s3,_,kv3,hl3,hr3⟩:=h
  have hk:k<fr.length:=by rw [<-hlen];exact (Kw e).1
  have er:fr[k]?=some fr[k]:=Ks hk
  have htk:fr.take (k+1)=fr.take k++[fr[k]]:=by rw [take_succ,er];rfl
  have rv:=hr3 k v _ e er
  have hnew:fr[k].1∉(known++fr.take k).map (·.1):=fun z=>by
   have e2:known++fr=(known++fr.take k)++fr[k]::fr.drop (k+1):=by
    rw [<-drop_eq_getElem_cons hk,append_assoc,take_append_drop]
   rw [e2,map_append,map_cons] at ndA;exact (Kv ndA).2.2 _ z _ mem_cons_self rfl
  generalize fr[k]=r at *
  obtain ⟨p,u,rfl,hp,hu⟩:=GN rv;have hpH:SqT K H3 p _:=aV hid_le hp
  refine ⟨.ref p,rfl,.ref d,rfl,.ref p,rfl,.inr (.inl ⟨p,_,0,_,rfl,rfl,hpH,rfl,.ref p,rfl,.inr (.inl ⟨p,_,1,_,rfl,rfl,hpH,rfl,vl,fun b hb=>?_⟩)⟩)⟩
  have sb:Same H3 (upd H3 b (.tup [.int (r.1.1:Int),.int (r.1.2:Int)])):=cb hb
  have kv4:=kv3.grow sb
  have k2:K2 K (upd H3 b (.tup [.int (r.1.1:Int),.int (r.1.2:Int)])) (ky r.1.1 r.1.2) b:=BW
  have sh:=dW (O:=d::O) (O':=d::O) sb fun a ha=>.inl ha
  generalize upd H3 b (.tup [.int (r.1.1:Int),.int (r.1.2:Int)])=H4 at *
  obtain ⟨f,hf,hv⟩:=kv4.h;have hlt:((known++fr.take k).map (·.1)).length<1000:=by
   rw [length_map,length_append,length_take];rw [length_append] at klen;omega
  refine ⟨d,b,[false,false],_,ky r.1.1 r.1.2,rfl,rfl,hf,k2,rfl,by rw [wL];exact hlt,GE hnew,fun ob hD2=>?_⟩
  rw [tR hnew] at hD2;have hu2:aC (upd H4 d ob) (d::O)=aC H4 (d::O):=hid_upd mem_cons_self
  refine ⟨⟨_,rfl⟩,fun c o hc=>?_,Same.refl _,⟨fun p'=>if p'=r.1 then .ref p else f p',?_,fun r' hr'=>?_⟩,?_,fun i v r' h1 h2=>?_⟩
  ·rw [bw (fun z=>by subst z;rw [hd] at hc;cases hc)]
   exact sb c o (s3 c o hc)
  ·rw [htk,<-append_assoc,map_append (l₂:=[r])]
   exact hD2
  ·rw [hu2]
   rw [htk,<-append_assoc] at hr';rcases Kq hr' with z | z
   ·show Rep K _ (if r'.1=r.1 then V.ref p else f r'.1) _
    rw [if_neg (fun y=>hnew (by rw [<-y];exact List.mem_map.mpr ⟨r',z,rfl⟩))]
    exact hv r' z
   ·rw [List.mem_singleton.mp z]
    show Rep K _ (if r.1=r.1 then V.ref p else f r.1) _
    rw [if_pos rfl];exact rv.mono sh
  ·rw [hu2]
   exact sh.seq hl3
  ·rw [hu2]
   exact (hr3 i v r' h1 h2).mono sh
 ·obtain ⟨⟨x3,rfl⟩,s3,_,kv3,_,_⟩:=h
  rw [hlen,take_length] at kv3;refine call H3 _ _ _ _ s3 kv3 fun v2 H4 s4 r4=>⟨m,Nat.lt_succ_self _,_,v2,x3,rfl,s3.trans s4,kv3.grow s4,r4,kst,?_,ha⟩
  rw [length_append,<-hlen];rw [length_append,<-hlen] at klen;omega
end
noncomputable def Bt (P:Program) (w:World) (K:Fg) (mg:Str->Option Value) (base:Heap) (j:Nat):Prop:=
 ∃(f:Addr) (fd:FuncData) (ps:List Str),bT P w K mg base eG j f fd ps (vF P w K)/\mg "all_rows"=some (.ref f)/\PySem.W.keepIn K (.ref f)=true/\Binds K fd ps []
noncomputable abbrev Jj (X:Cx):Prop:=∃(k:Nat) (f:Addr) (fd:FuncData) (ps:List Str),bT X.prog X.w X.K X.mg X.base eG k f fd ps (vF X.prog X.w X.K)/\Room k X.A/\X.mg "all_rows"=some (.ref f)/\PySem.W.keepIn X.K (.ref f)=true/\Binds X.K fd ps []
noncomputable def d_pairs_behind:FS:=(bh (qh (bo aw (aE eC (ak (ak (ae 1) (eK (.int 2))) (eK (.int 0))) (eK (.str "mark")))) (bz .leaf af) (ah 5 bu (aa (ae 0) (aa (ak (ae 1) (eK (.int 0))) (aa (ak (ae 1) (eK (.int 1))) (aa (ak (ak (ae 1) (eK (.int 2))) (eK (.int 1))) (aa (ak (ak (ae 1) (eK (.int 2))) (eK (.int 2))) af))))))))
noncomputable def m_pairs_behind:List KB->b9:=aQ 2 d_pairs_behind
theorem xZ {c:FB} {fa fb:F1} {t:Bool} {p:PV} (hc:c Γ=.ok t Γ) (ha:t=true->fa Γ=.ok p Γ) (hb:t=false->fb Γ=.ok p Γ):qh c fa fb Γ=.ok p Γ:=by
 unfold qh;rw [hc];simp only [vj]
 cases t with
 | true=>exact ha rfl
 | false=>exact hb rfl
noncomputable def JR:xA->Prop
 | .mk _=>True
 | .st s t=>∃a b:Nat,s=(a:Int)/\t=(b:Int)/\a<=1
theorem rX {ks:List (Nat×Nat)} {r:Row} (h:cU wd ks r=true):JR r.2:=by
 unfold cU at h;split at h
 ·rename_i c e;rw [e];exact True.intro
 ·rename_i s t e
  rw [e];rw [Bool.and_eq_true,Bool.and_eq_true] at h;obtain ⟨b,_,eb⟩:=inS_iff.mp h.1.2;have hs:=of_decide_eq_true h.1.1
  rcases hs with z | z
  ·exact ⟨0,b,z,eb.symm,by omega⟩
  ·exact ⟨1,b,z,eb.symm,by omega⟩
theorem xg {r:Row} (ok:wd.Ok) (h1:r.1.1<wd.n) (h2:r.1.2<wd.n) (hr:JR r.2):m_pairs_behind [wd.enc,bF r]=.ok ⟨.lst .leaf,.list ((m7 wd r).map bY)⟩:=by
 obtain ⟨⟨i,j⟩,rs⟩:=r;have row:ae 1 (bO 2 [wd.enc,bF ((i,j),rs)])=.ok ⟨.leaf,bF ((i,j),rs)⟩ (bO 2 [wd.enc,bF ((i,j),rs)]):=aj rfl
 have rea:ak (ae 1) (eK (.int 2)) (bO 2 [wd.enc,bF ((i,j),rs)])=.ok ⟨.leaf,bX rs⟩ (bO 2 [wd.enc,bF ((i,j),rs)]):=dq (j:=2) (ds:=[rm i,rm j,bX rs]) row (aK (d:=.int 2)) rfl rfl rfl
 cases rs with
 | mk c=>
  have hd:=dq (j:=0) (ds:=[.str "mark",.str c]) rea (aK (d:=.int 0)) rfl rfl rfl
  exact bj (aW (xZ (t:=true) (dt (s:=.leaf) (aB hd (aK (d:=.str "mark")) (by kernel_rfl))) (fun _=>qI ag rfl rfl rfl) nofun) rfl)
 | st s t=>
  obtain ⟨a,b,rfl,rfl,ha⟩:=hr;have hd:=dq (j:=0) (ds:=[.str "step",.int (a:Int),.int (b:Int)]) rea (aK (d:=.int 0)) rfl rfl rfl
  have hs:=dq (j:=1) (ds:=[.str "step",rm a,rm b]) rea (aK (d:=.int 1)) rfl rfl rfl
  have ht:=dq (j:=2) (ds:=[.str "step",rm a,rm b]) rea (aK (d:=.int 2)) rfl rfl rfl
  have e:m7 wd ((i,j),.st (a:Int) (b:Int))=fv wd i j a b:=by
   show fv wd i j (a:Int).toNat (b:Int).toNat=_
   rw [Int.toNat_natCast,Int.toNat_natCast]
  rw [e];exact bj (aW (xZ (t:=false) (dt (s:=.leaf) (aB hd (aK (d:=.str "mark")) (by kernel_rfl))) nofun (fun _=>bR (ar (aj (i:=0) rfl) (ar (dq (j:=0) (ds:=[rm i,rm j,bX (.st a b)]) row (aK (d:=.int 0)) rfl rfl rfl) (ar (dq (j:=1) (ds:=[rm i,rm j,bX (.st a b)]) row (aK (d:=.int 1)) rfl rfl rfl) (ar hs (ar ht ag))))) (uo ok h1 h2 ha) rfl rfl)) rfl)
noncomputable abbrev ni:List Str:=["world", "one", "other", "rows", "zz", "needed", "waiting", "pair", "behind"]
noncomputable def Jo (P:Program) (w:World) (K:Fg):L2.TS:=aS (b5 (zg K "list" zK (ai 6)) (av 7)) (cT (bf K (cF (pq K 2 m_pairs_behind) [] L2.E0 (ao (ai 0) (ao (BA P w K (ai 3) (ai 7)) bb)))) (av 8) (Cs P w K))
noncomputable def Cv (P:Program) (w:World) (K:Fg):TE:=bJ [7] (JK P w K (ai 3)) (av 7) (tB (gG P w K (ai 7) (ai 5))) (nK P w K (ai 3) (ai 7))
noncomputable def HM (P:Program) (w:World) (K:Fg):L2.TS:=aS (b5 (cF (vF P w K) [] L2.E0 (ao (ai 0) bb)) (av 3)) (aS (eN (tB (B9 P w K (yc 1 2) (ai 3))) (cE (tC .non)) cN)
 (aS (b5 (jr P w K [false,false] (yc 1 2) (tC (.bl true))) (av 5))
 (aS (b5 (pj (ao (yc 1 2) bb)) (av 6))
 (aS (xK (FG K) (Jo P w K))
 (cE (Cv P w K))))))
noncomputable abbrev sR (v0:V) (i j:Nat) (d1 d l:Addr) (x7 x8:Option V):St:=[some v0,some (.int (i:Int)),some (.int (j:Int)),some (.ref d1),none,some (.ref d),some (.ref l),x7,x8]
theorem j7 (ok:wd.Ok) {k:Nat} {ks:List (Nat×Nat)} (nd:ks.Nodup) (h:∀x∈ks,gy (bQ wd) k x):ks.length<=576:=by
 have:=fM (L:=(bQ wd).map (·.1)) nd fun x hx=>by
  obtain ⟨m,r,_,e,rfl⟩:=h x hx;exact List.mem_map.mpr ⟨r,mem_of_getElem? e,rfl⟩
 rw [length_map] at this;have:=(xH ok).1.len ok.h24
 omega
noncomputable abbrev yE (wd:Wd) (p:Nat×Nat):List (Nat×Nat):=m7 wd (fJ (bQ wd) p)
section
variable {P:Program} {w:World} {K:Fg} {He H H':Hp} {O:List Addr} {d1 d l:Addr} {p:List (Nat×Nat)×List (Nat×Nat)} {wd:Wd} {i j kk:Nat} {v0:V}
theorem vN {q:Nat×Nat} {b:Addr} {D:cJ} (ok:wd.Ok) (r0:Rep K (aC He O) v0 wd.enc) (kv:KV P w K He O d1 (bQ wd)) (nd:O.Nodup) (inO:∀a∈O,He a≠none) (hd0:He d=none) (hl0:He l=none) (I:IK P w K He O d l H p) (hb:SqT K (aC H (d::l::O)) b (pv q)) (hq:gy (bQ wd) kk q) (wb:WB (gy (bQ wd) kk) p)
  (k:∀H' x8,IK P w K He O d l H' (dH (yE wd q) p)->D.nx (sR v0 i j d1 d l (some (.ref b)) x8) H'):cT (bf K (cF (pq K 2 m_pairs_behind) [] L2.E0 (ao (ai 0) (ao (BA P w K (ai 3) (ai 7)) bb)))) (av 8) (Cs P w K) D (sR v0 i j d1 d l (some (.ref b)) x8) H:=by
 obtain ⟨KI1,_⟩:=xH ok;obtain ⟨bs,e1,e2,e3⟩:=I.bs;obtain ⟨φ,hφ⟩:=D2H.ext I.hD;have hdl:d≠l:=fun z=>by rw [z,e1] at hφ;cases hφ
 have nd2:(d::l::O).Nodup:=List.nodup_cons.mpr ⟨fun z=>(Kr z).elim hdl fun y=>inO d y hd0,List.nodup_cons.mpr ⟨fun y=>inO l y hl0,nd⟩⟩
 have in2:∀a∈d::l::O,H a≠none:=fun a ha=>by
  rcases Kr ha with rfl | ha
  ·rw [hφ];exact Option.some_ne_none _
  rcases Kr ha with rfl | ha
  ·rw [e1];exact Option.some_ne_none _
  ·cases e:He a with
   | none=>exact absurd e (inO a ha)
   | some u=>rw [I.s a u e];exact Option.some_ne_none _
 have mo:Same (aC He O) (aC H (d::l::O)):=dW I.s fun a ha=>by
  rcases Kr ha with rfl | ha
  ·exact .inr hd0
  rcases Kr ha with rfl | ha
  ·exact .inr hl0
  ·exact .inl ha
 obtain ⟨m,r,hm,er,rfl⟩:=id hq;have era:=Hf KI1.nd er
 have hrm:r∈bQ wd:=mem_of_getElem? er
 obtain ⟨f,hf,hv⟩:=kv.h;have hcl:∀t∈yE wd r.1,gy (bQ wd) kk t:=B5 KI1 _ hq
 have hden:=xg ok (KI1.lt r hrm).1 (KI1.lt r hrm).2 (rX (KI1.ok m r er))
 have ebh:yE wd r.1=m7 wd r:=by show m7 wd (fJ (bQ wd) r.1)=_;rw [era]
 rw [ebh] at k hcl
 refine ⟨v0,rfl,.ref d1,rfl,.ref b,rfl,d1,b,[false,false],_,ky r.1.1 r.1.2,f r.1,rfl,rfl,hf.grow I.s,⟨_,aV hid_le hb,.cons rfl (.cons rfl .nil)⟩,rfl,Ey (List.mem_map.mpr ⟨r,hrm,rfl⟩),?_⟩
 refine ⟨rfl,d::l::O,[wd.enc,bF r],nd2,in2,⟨rfl,fun n v dd h1 h2=>?_⟩,?_⟩
 ·match n,h1,h2 with
  | 0,h1,h2=>cases h1;cases h2;exact r0.mono mo
  | 1,h1,h2=>cases h1;cases h2;exact (hv r hrm).mono mo
  | n+2,h1,h2=>cases h1
 rw [hden];intro v H3 G ret;have s3:=ret.same
 have r:Rep K (aC H3 (d::l::O)) v (.list ((m7 wd r).map bY)):=oo ret.own rfl (fun a ha z=>in2 a z (ret.fresh a ha)) (fun a ha=>Ko _ ha)
 generalize m7 wd _=ts at r k hcl
 cases r with
 | @lst qa vs _ hqL hl hr=>
 rw [length_map] at hl;refine ⟨qa,rfl,⟨_,hid_le.seq hqL⟩,?_⟩
 refine yT (xs:=vs) (fun k U' H'=>(∃x8,U'=sR v0 i j d1 d l (some (.ref b)) x8)/\Same (aC H3 (d::l::O)) (aC H' (d::l::O))/\IK P w K He O d l H' (dH (ts.take k) p)) ⟨⟨_,rfl⟩,Same.refl _,I.grow s3⟩ (fun k U' H' _ h=>hid_le.seq (h.2.1.seq hqL)) (fun k v U' H' e h=>?_) fun U' H' h=>?_
 ·obtain ⟨⟨x8,rfl⟩,sm,I2⟩:=h
  have hk:k<ts.length:=by rw [<-hl];exact (Kw e).1
  have et:ts[k]?=some ts[k]:=Ks hk
  have htk:ts.take (k+1)=ts.take k++[ts[k]]:=by rw [take_succ,et];rfl
  have rp:=hr k v (bY ts[k]) e (by rw [getElem?_map,et];rfl)
  generalize ts[k]=t at htk rp
  obtain ⟨c,rfl,hc⟩:=EB rp;obtain ⟨wbk,_⟩:=yX (ts:=ts.take k) wb fun t ht=>hcl t (List.mem_of_mem_take ht)
  have b1:=j7 ok wbk.nd wbk.ok
  have b2:=wbk.le
  refine yh (wd:=wd) (N:=[]) (q:=t) (b:=c) I2 hd0 hl0 rfl rfl rfl (aV sm hc) (by omega) (by omega) fun H4 eh I4=>⟨⟨_,rfl⟩,by rw [eh];exact sm,?_⟩
  rw [htk];unfold dH;rw [List.foldl_append];exact I4
 ·obtain ⟨⟨x8,rfl⟩,sm,I2⟩:=h
  rw [hl,take_of_length_le (KA _)] at I2;exact k H' x8 I2
theorem zr {x7:Option V} {D:cJ} (ok:wd.Ok) (r0:Rep K (aC He O) v0 wd.enc) (kv:KV P w K He O d1 (bQ wd)) (nd:O.Nodup) (inO:∀a∈O,He a≠none) (hd0:He d=none) (hl0:He l=none) (I:IK P w K He O d l H ([(i,j)],[(i,j)])) (lk:gy (bQ wd) kk (i,j))
  (k:∀H' x7 x8,IK P w K He O d l H' (mK wd i j,[])->D.nx (sR v0 i j d1 d l x7 x8) H'):xK (FG K) (Jo P w K) D (sR v0 i j d1 d l x7 x8) H:=by
 obtain ⟨KI1,_⟩:=xH ok;refine ⟨fun m' U H=>∃p x7 x8,U=sR v0 i j d1 d l x7 x8/\IK P w K He O d l H p/\WI (gy (bQ wd) kk) (yE wd) (i,j) p/\ua (yE wd) m' p=mK wd i j/\2*(576-p.1.length)+p.2.length<m',⟨2000,_,_,_,rfl,I,⟨⟨by simp,fun x hx=>by rw [List.mem_singleton.mp hx];exact lk,fun _ z=>z,KA _⟩,List.mem_singleton.mpr rfl,fun x hx=>.inl hx⟩,rfl,by simp⟩,?_⟩
 rintro m' U H ⟨p,x7,x8,rfl,I,wi,hg,hm⟩
 obtain ⟨bs,e1,e2,e3⟩:=I.bs;refine ⟨.ref l,rfl,!(bs.map V.ref).isEmpty,.inl ⟨_,.of e1,rfl⟩,?_⟩
 cases m' with
 | zero=>exact absurd hm (Nat.not_lt_zero _)
 | succ m'=>
 unfold ua at hg
 cases e:p.2.getLast? with
 | none=>
  rw [e] at hg;have e0:p.2=[]:=List.getLast?_eq_none_iff.mp e
  rw [e0] at e2;have:bs=[]:=List.length_eq_zero_iff.mp e2
  subst this;refine cn (k H x7 x8 ?_)
  have:p=(mK wd i j,[]):=Prod.ext hg e0
  rw [<-this];exact I
 | some t=>
  rw [e] at hg;have hne:p.2≠[]:=fun z=>by rw [z] at e;cases e
  have hnb:bs≠[]:=fun z=>hne (List.length_eq_zero_iff.mp (by rw [<-e2,z];rfl))
  have he:(!(bs.map V.ref).isEmpty)=true:=by cases bs with | nil=>exact absurd rfl hnb | cons a r=>rfl
  rw [he];refine ck ⟨fun U' H'=>∃m'',m''<m'+1/\∃p x7 x8,U'=sR v0 i j d1 d l x7 x8/\IK P w K He O d l H' p/\WI (gy (bQ wd) kk) (yE wd) (i,j) p/\ua (yE wd) m'' p=mK wd i j/\2*(576-p.1.length)+p.2.length<m'',fun U' H' z=>z,?_⟩
  have hpos:0<bs.length:=List.length_pos_iff.mpr hnb
  have hlb:bs.length-1<bs.length:=by omega
  have hlast:(bs.map V.ref)[(bs.map V.ref).length-1]?=some (.ref bs[bs.length-1]):=by rw [length_map,getElem?_map,Ks hlb];rfl
  have hbt:=e3 (bs.length-1) bs[bs.length-1] t (Ks hlb) (by rw [e2,<-List.getLast?_eq_getElem?];exact e)
  generalize bs[bs.length-1]=b at hlast hbt
  refine ⟨.ref l,rfl,.inl ⟨rfl,_,.of e1⟩,l,_,.ref b,rfl,rfl,e1,hlast,?_⟩
  have tin:=wi.b.sub t (mem_of_getLast? e)
  have I2:IK P w K He O d l (upd H l (.lst (bs.map V.ref).dropLast)) (p.1,p.2.dropLast):=⟨fun c u hc=>by
    rw [bw (fun z=>by subst z;rw [hl0] at hc;cases hc)]
    exact I.s c u hc,D2H.updL I.hD e1,bs.dropLast,by rw [bL,List.map_dropLast],by simp [e2],fun k c q a1 a2=>by
    rw [hid_upd (by simp)]
    have hk1:=(Kw a1).1
    rw [length_dropLast] at hk1;rw [getElem?_dropLast,if_pos (by omega)] at a1
    rw [getElem?_dropLast,if_pos (by omega)] at a2
    exact e3 k c q a1 a2⟩
  refine vN (i:=i) (j:=j) (kk:=kk) ok r0 kv nd inO hd0 hl0 I2 (by rw [hid_upd (by simp)];exact hbt) (wi.b.ok t tin) wi.drop fun H' x8 I3=>⟨m',Nat.lt_succ_self _,_,_,_,rfl,I3,(wi.step (fun x hx=>B5 KI1 x hx) e).1,hg,?_⟩
  obtain ⟨wi2,hl2⟩:=wi.step (fun x hx=>B5 KI1 x hx) e
  have a:=j7 ok wi2.b.nd wi2.b.ok
  have c:p.1.length<=(dH (yE wd t) (p.1,p.2.dropLast)).1.length:=fM wi.b.nd (yX wi.drop (B5 KI1 _ (wi.b.ok t tin))).2.le
  omega
end
theorem sY {H:Hp} {g:Nat×Nat->V} {ps:List (Nat×Nat)} {bs:List Addr} (h:Paired (fun (p:List T.It×V) b=>K2 K H p.1 b) (pY ps g) bs):bs.length=ps.length/\∀(k:Nat) (p:Nat×Nat),ps[k]?=some p->∃b,bs[k]?=some b/\SqT K H b (pv p):=by
 induction ps generalizing bs with
 | nil=>cases h;exact ⟨rfl,fun k p e=>by simp at e⟩
 | cons q ps ih=>
  cases h with
  | @cons _ b _ bs h1 h2=>
   obtain ⟨l,r⟩:=ih h2;refine ⟨by simp [l],fun k p e=>?_⟩
   cases k with
   | zero=>cases e;exact ⟨b,rfl,yr h1⟩
   | succ k=>exact r k p (by simpa using e)
noncomputable def pD (w:Wd) (i j:Nat):PV:=if (i,j)∈(bQ w).map (·.1) then ⟨.lst .leaf,.list ((va w i j).map bF)⟩ else ⟨.leaf,.none⟩
noncomputable def JQ (ds:List KB):Prop:=∃x:Wd×Nat×Nat,ds=[x.1.enc,rm x.2.1,rm x.2.2]/\x.1.Ok/\x.2.1<x.1.n/\x.2.2<x.1.n
open Classical in
noncomputable def bE (ds:List KB):b9:=if h:JQ ds then .ok (pD h.choose.1 h.choose.2.1 h.choose.2.2) else .no
theorem jG {w:Wd} {i j:Nat} (ok:w.Ok) (hi:i<w.n) (hj:j<w.n):bE [w.enc,rm i,rm j]=.ok (pD w i j):=by
 have H:JQ [w.enc,rm i,rm j]:=⟨(w,i,j),rfl,ok,hi,hj⟩
 unfold bE;rw [dif_pos H];obtain ⟨e,k,_,_⟩:=H.choose_spec;injection e with e1 e
 injection e with e2 e
 injection e with e3 _
 rw [<-xf ok k e1,<-Int.ofNat_inj.mp (PyData.int.inj e2),<-Int.ofNat_inj.mp (PyData.int.inj e3)]
theorem wB {ds:List KB} {p:PV} (h:bE ds=.ok p):∃w i j,ds=[w.enc,rm i,rm j]/\w.Ok/\i<w.n/\j<w.n/\p=pD w i j:=by
 unfold bE at h;split at h
 ·rename_i H
  cases h;obtain ⟨e,k,k2,k3⟩:=H.choose_spec;exact ⟨_,_,_,e,k,k2,k3,rfl⟩
 ·cases h
section
variable {P:Program} {w:World} {K:Fg} {H:Hp} {O:List Addr} {wd:Wd} {i j:Nat}
theorem CT {Q:VK} (ok:wd.Ok) (hi:i<wd.n) (hj:j<wd.n) (nd:O.Nodup) (inH:∀a∈O,H a≠none) (rs:Reps K (aC H O) vs [wd.enc,rm i,rm j])
  (k:∀v H' G,RetOk K H O (pD wd i j) v H' G->Q v H'):HM P w K { nx:=Qn,rt:=Q } (L2.start ni vs) H:=by
 have hvl:vs.length=3:=rs.1
 have hbz:(1000:Nat)<=sizeLine:=by decide
 match vs,hvl,rs with
 | [v0,v1,v2],_,rs=>
 have r0:=rs.2 0 v0 _ rfl rfl
 have r1:=rs.2 1 v1 _ rfl rfl
 have r2:=rs.2 2 v2 _ rfl rfl
 cases r1
 cases r2;obtain ⟨KI1,_⟩:=xH ok;have inS:∀{H'},Same H H'->∀a∈O,H' a≠none:=fun {H'} s a ha=>by
  cases e:H a with
  | none=>exact absurd e (inH a ha)
  | some u=>rw [s a u e];exact Option.some_ne_none _
 show HM P w K { nx:=Qn,rt:=Q } [some v0,some (.int (i:Int)),some (.int (j:Int)),none,none,none,none,none,none] H
 refine ⟨v0,rfl,wd,O,v0,rfl,ok,nd,inH,r0,fun d1 He s0 hd1 kv=>?_⟩
 show aS (eN (tB (B9 P w K (yc 1 2) (ai 3))) (cE (tC .non)) cN) _ _ [some v0,some (.int (i:Int)),some (.int (j:Int)),some (.ref d1),none,none,none,none,none] He
 obtain ⟨f,hf,hv⟩:=id kv.h;have hd1e:He d1≠none:=by obtain ⟨xs,h,_⟩:=hf;rw [h];exact Option.some_ne_none _
 have hdO:d1∉O:=fun z=>inH d1 z hd1
 have nd1:(d1::O).Nodup:=List.nodup_cons.mpr ⟨hdO,nd⟩
 have r0e:Rep K (aC He (d1::O)) v0 wd.enc:=r0.mono (dW s0 fun a ha=>by
  rcases Kr ha with rfl | ha
  ·exact .inr hd1
  ·exact .inl ha)
 refine ⟨_,rfl,_,rfl,vl,fun b hb=>⟨.ref d1,rfl,d1,b,[false,false],_,ky i j,rfl,rfl,DF.grow hf (cb hb),BW,rfl,_,rfl,?_⟩⟩
 rw [Gh (p:=(i,j))];have sb:Same He (upd He b (.tup [.int (i:Int),.int (j:Int)])):=cb hb
 generalize upd He b (.tup [.int (i:Int),.int (j:Int)])=H5 at sb
 have s05:Same H H5:=s0.trans sb
 unfold pD at k;by_cases hin:(i,j)∈(bQ wd).map (·.1)
 case neg=>
  rw [if_neg hin] at k;rw [decide_eq_false hin];exact ck (k _ _ [] ⟨s05,(fun _ z=>nomatch z),(fun _ z=>nomatch z),nodup_nil,.leaf .non,rfl⟩)
 case pos=>
  rw [if_pos hin] at k;rw [decide_eq_true hin];obtain ⟨rr,hrr,err⟩:=List.mem_map.mp hin;obtain ⟨kk,hkk,ekk⟩:=getElem_of_mem hrr;have lk:gy (bQ wd) kk (i,j):=⟨kk,rr,KA _,by rw [Ks hkk,ekk],err⟩
  have kv5:=kv.grow sb
  have in5:∀a∈d1::O,H5 a≠none:=fun a ha=>by
   rcases Kr ha with rfl | ha
   ·cases e:He a with
    | none=>exact absurd e hd1e
    | some u=>rw [sb a u e];exact Option.some_ne_none _
   ·exact inS s05 a ha
  have r05:=r0e.mono (dW (O':=d1::O) sb fun a ha=>.inl ha)
  refine cn ⟨d1::O,fun d ob hd hD0=>⟨_,rfl,_,rfl,vl,fun t0 ht0=>?_⟩⟩
  have ht0':H5 t0=none:=(cb hd).free ht0
  have hb0:SqT K (aC (upd (upd H5 d ob) t0 (.tup (pv (i,j)))) (d1::O)) t0 (pv (i,j)):=.inl (.inl (h9 bL fun z=>in5 t0 z ht0'))
  refine ⟨t0,ky i j,rfl,D2H.grow hD0 (cb ht0),⟨_,hb0,.cons rfl (.cons rfl .nil)⟩,rfl,fun ob2 hD=>?_⟩
  have hD:D2H P w K (upd (upd (upd H5 d ob) t0 (.tup (pv (i,j)))) d ob2) (d1::O) [false,false] d (gA [(i,j)] kT):=hD
  generalize eH6:upd (upd (upd H5 d ob) t0 (.tup (pv (i,j)))) d ob2=H6 at hD
  have s56:Same H5 H6:=fun c u hc=>by
   rw [<-eH6,bw (fun z=>by subst z;rw [hd] at hc;cases hc),bw (fun z=>by subst z;rw [ht0'] at hc;cases hc),bw (fun z=>by subst z;rw [hd] at hc;cases hc)]
   exact hc
  refine ⟨_,rfl,_,rfl,vl,fun t1 ht1=>⟨Nat.le_trans (by decide:1<=1000) (by decide),fun l hl0=>?_⟩⟩
  have ht1':H5 t1=none:=s56.free ht1
  have s67:Same H6 (upd H6 t1 (.tup (pv (i,j)))):=cb ht1
  have hl6:H6 l=none:=s67.free hl0
  have hl5:H5 l=none:=s56.free hl6
  have hlt:t1≠l:=fun z=>by rw [<-z,bL] at hl0;cases hl0
  have htd1:t1≠d:=fun z=>by
   obtain ⟨φ,hφ⟩:=D2H.ext hD;rw [z,hφ] at ht1
   cases ht1
  have s78:Same (upd H6 t1 (.tup (pv (i,j)))) (upd (upd H6 t1 (.tup (pv (i,j)))) l (.lst [.ref t1])):=cb hl0
  have I:IK P w K H5 (d1::O) d l (upd (upd H6 t1 (.tup (pv (i,j)))) l (.lst [.ref t1])) ([(i,j)],[(i,j)]):=by
   refine ⟨(s56.trans s67).trans s78,D2H.grow (D2H.grow hD s67) s78,[t1],bL,rfl,fun k b q a1 a2=>?_⟩
   match k,a1,a2 with
   | 0,a1,a2=>
    cases a1
    cases a2;refine .inl (.inl (h9 (by rw [bw hlt,bL]) fun z=>?_))
    rcases Kr z with z | z
    ·exact htd1 z
    rcases Kr z with z | z
    ·exact hlt z
    ·exact in5 t1 z ht1'
   | k+1,a1,a2=>simp at a1
  refine zr (kk:=kk) ok r05 kv5 nd1 in5 hd hl5 I lk fun H7 x7 x8 I7=>?_
  have sH7:Same H H7:=s05.trans I7.s
  obtain ⟨f7,hf7,hv7⟩:=(kv5.grow I7.s).h;have hD7:=D2H.d I7.hD
  refine ⟨.ref d1,rfl,d1,[false,false],_,rfl,hf7,fun xs ep hkx hnd hlen hsys hat D hDn=>?_⟩
  have hdd1:d≠d1:=fun z=>in5 d1 mem_cons_self (by rw [<-z];exact hd)
  have tm:∀(ob:HO) c ys,SqT K H7 c ys->SqT K (upd H7 d1 ob) c ys:=fun ob c ys h=>by
   rcases h with (h | ⟨o,h⟩) | h
   ·exact .inl (.inl (by rw [bw (fun z=>by rw [z,hat] at h;cases h)];exact h))
   ·exact .inl (.inr ⟨o,by rw [bw (fun z=>by rw [z,hat] at h;cases h)];exact h⟩)
   ·exact .inr h
  have hkx8:KX K (upd H7 d1 (dD P w [false,false] d1 xs ep)) [false,false] (pY ((bQ wd).map (·.1)) f7) xs:=hkx.mono (tm _)
  have hD8:D2 P w K (upd H7 d1 (dD P w [false,false] d1 xs ep)) [false,false] d (gA (mK wd i j) kT):=by
   obtain ⟨ys,a1,a2,a3⟩:=hD7;exact ⟨ys,by rw [bw hdd1];exact a1,a2.mono (tm _),a3⟩
  have hat8:upd H7 d1 (dD P w [false,false] d1 xs ep) d1=some (dD P w [false,false] d1 xs ep):=bL
  have s8:∀c u,c≠d1->H7 c=some u->upd H7 d1 (dD P w [false,false] d1 xs ep) c=some u:=fun c u hc h=>by rw [bw hc];exact h
  have hDn7:H7 D=none/\D≠d1:=⟨by
   by_cases z:D=d1
   ·rw [z,bL] at hDn;cases hDn
   ·rw [bw z] at hDn;exact hDn,fun z=>by rw [z,bL] at hDn;cases hDn⟩
  generalize upd H7 d1 (dD P w [false,false] d1 xs ep)=H8 at *
  have gr:∀{L:HO} {L':HO},Same (H8) (upd (upd H8 D L) D L'):=fun c u hc=>by
   rw [bw (fun z=>by subst z;rw [hDn] at hc;cases hc),bw (fun z=>by subst z;rw [hDn] at hc;cases hc)]
   exact hc
  obtain ⟨hbl,hbk⟩:=sY (yp hkx8);rw [length_map,length_map] at hbl;have hkl:(bQ wd).length<=576:=KI1.len ok.h24
  let S:Row->Bool:=fun r=>decide (r.1∈mK wd i j)
  refine ⟨fun n m ys H'=>H'=upd H8 D (.lst ys)/\m=(bQ wd).length-n/\n<=(bQ wd).length/\ys=(((bQ wd).take n).filter S).map (fun r=>f7 r.1),⟨_,rfl,rfl,Nat.zero_le _,rfl⟩,?_⟩
  rintro n m ys H' ⟨rfl,rfl,hn,rfl⟩
  have s9:Same H8 (upd H8 D (.lst ((((bQ wd).take n).filter S).map (fun r=>f7 r.1)))):=cb hDn
  refine ⟨bL,?_⟩
  by_cases hlt:n<(bQ wd).length
  ·refine .inr ⟨⟨s9 _ _ hat8,by rw [length_map,hbl];exact hlt⟩,?_,?_⟩
   ·rw [length_map]
    have:=length_filter_le S ((bQ wd).take n)
    rw [length_take] at this;omega
   rintro x H' ⟨rfl,b,eb,rfl⟩
   have er:(bQ wd)[n]?=some (bQ wd)[n]:=Ks hlt
   have htk:(bQ wd).take (n+1)=(bQ wd).take n++[(bQ wd)[n]]:=by rw [take_succ,er];rfl
   obtain ⟨b',eb',hb'⟩:=hbk n (bQ wd)[n].1 (by rw [getElem?_map,er];rfl)
   rw [eb] at eb'
   cases eb'
   have hrm:(bQ wd)[n]∈bQ wd:=getElem_mem _
   generalize (bQ wd)[n]=r at *
   have k2:K2 K (upd H8 D (.lst ((((bQ wd).take n).filter S).map (fun r=>f7 r.1)))) (ky r.1.1 r.1.2) b:=⟨_,aV s9 hb',.cons rfl (.cons rfl .nil)⟩
   refine ⟨⟨by simp [aD],fun q v e=>?_⟩,.ref b,rfl,.ref d,rfl,d,b,[false,false],gA (mK wd i j) kT,ky r.1.1 r.1.2,rfl,rfl,?_,k2,rfl,_,rfl,?_⟩
   ·match q,e with
    | 0,e=>exact e
    | 1,e=>exact e
    | 2,e=>exact e
    | 3,e=>exact e
    | 4,e=>exact e
    | 5,e=>exact e
    | 6,e=>exact e
    | 7,e=>cases e
    | 8,e=>exact e
    | q+9,e=>cases e
   ·obtain ⟨ys,a1,a2,a3⟩:=hD8
    exact ⟨ys,s9 _ _ a1,a2.mono fun c xs=>aV s9,a3⟩
   ·rw [tQ]
    by_cases hS:r.1∈mK wd i j
    ·rw [decide_eq_true hS]
     refine ck ⟨.ref d1,rfl,.ref b,rfl,d1,b,[false,false],_,ky r.1.1 r.1.2,f7 r.1,xs,ep,rfl,rfl,⟨s9 _ _ hat8,hkx8.mono fun c xs=>aV s9,hnd,hlen,hsys⟩,k2,rfl,Ey (List.mem_map.mpr ⟨r,hrm,rfl⟩),bL,(bQ wd).length-(n+1),by omega,?_,rfl,hlt,?_⟩
     ·funext c
      by_cases z:c=D
      ·rw [z,bL,bL]
      ·rw [bw z,bw z,bw z]
     ·rw [htk,filter_append,map_append]
      have:[r].filter S=[r]:=by rw [filter_cons,if_pos (decide_eq_true hS)];rfl
      rw [this];rfl
    ·rw [decide_eq_false hS]
     refine cn ⟨(bQ wd).length-(n+1),by omega,rfl,rfl,hlt,?_⟩
     ·rw [htk,filter_append]
      have:[r].filter S=[]:=by rw [filter_cons,if_neg (fun z=>hS (of_decide_eq_true z))];rfl
      rw [this,append_nil]
  ·have e:n=(bQ wd).length:=by omega
   subst e;refine .inl ⟨⟨s9 _ _ hat8,by rw [length_map,hbl];exact KA _⟩,?_⟩
   rw [take_length];have sF:Same H (upd H8 D (.lst (((bQ wd).filter S).map (fun r=>f7 r.1)))):=fun c u hc=>by
    rw [bw (fun z=>by subst z;rw [sH7 _ _ hc] at hDn7;cases hDn7.1)]
    exact s8 c u (fun z=>by subst z;rw [hd1] at hc;cases hc) (sH7 _ _ hc)
   refine k _ _ [D] ⟨sF,fun a ha=>by rw [List.mem_singleton.mp ha];exact sH7.free hDn7.1,fun a ha=>by rw [List.mem_singleton.mp ha,bL];exact Option.some_ne_none _,by simp,?_,rfl⟩
   refine Own.mkLeaves bL (by rw [length_map,length_map];rfl) fun n u dd h1 h2=>?_
   rw [getElem?_map] at h1 h2
   obtain ⟨r,er,rfl⟩:=Option.map_eq_some_iff.mp h1;obtain ⟨r',er',rfl⟩:=Option.map_eq_some_iff.mp h2;have er':((bQ wd).filter S)[n]?=some r':=er'
   rw [er] at er'
   cases er'
   refine (hv7 r (List.mem_filter.mp (mem_of_getElem? er)).1).mono fun c u hc=>?_
   unfold aC at hc ⊢
   split at hc
   ·cases hc
   ·rename_i nc
    have c1:c≠d1:=fun z=>nc (by rw [z];exact mem_cons_self)
    have cD:c≠D:=fun z=>by rw [z,hDn7.1] at hc;cases hc
    rw [if_neg (fun z=>by
     rcases Kr z with y | y
     ·exact cD y
     ·exact nc (Ku _ y)),bw cD]
    exact s8 c u c1 hc
end
noncomputable abbrev uR:List Str:=["world", "row", "known", "reason"]
noncomputable abbrev Bp:List Str:=["is_by_mark", "is_by_step"]
noncomputable abbrev eR (v:Nat) (k:Int):F1:=ak (ae v) (eK (.int k))
noncomputable abbrev Ke:FB:=bo aw (aE eC (eR 3 0) (eK (.str "mark")))
noncomputable abbrev IS:F1:=ah 4 bc (aa (ae 0) (aa (eR 1 0) (aa (eR 1 1) (aa (eR 3 1) af))))
noncomputable abbrev Kd:FB:=lV (bo aw (aE (eA true) (eR 3 1) (cy (aa (eK (.int 0)) (aa (eK (.int 1)) af))))) (bo aw (aE (eA true) (eR 3 2) (ak (eR 0 2) (ak (ae 1) (eR 3 1)))))
noncomputable def HR (P:Program) (w:World) (K:Fg):L2.TS:=aS (b5 (tE K W0 (eR 1 2)) (av 3)) (aS (eN (tT K W0 Ke) (cE (tE K W0 IS)) cN) (aS (eN (tT K W0 Kd) (cE (tC (.bl false))) cN)
 (cE (cF (rF P w K) [] L2.E0 (ao (ai 0) (ao (zf K 1 0) (ao (zf K 1 1) (ao (zf K 3 1) (ao (zf K 3 2) (ao (ai 2) bb))))))))))
noncomputable def Ja:xA->Prop
 | .mk c=>PyData.strOk c=true
 | .st _ _=>True
noncomputable def vE (P:Program) (w:World) (K:Fg):Sp:=fun vs H Q _=>∃(wd:Wd) (O:List Addr) (v0 v1:V) (d:Addr) (ks:List (Nat×Nat)) (r:Row),vs=[v0,v1,.ref d]/\wd.Ok/\O.Nodup/\(∀a∈O,H a≠none)/\Rep K (aC H O) v0 wd.enc/\Rep K (aC H O) v1 (bF r)/\DK P w K H d ks/\r.1.1<wd.n/\r.1.2<wd.n/\Ja r.2/\∀H',Same H H'->Q (.bl (cU wd ks r)) H'
theorem IM {s:Int}:eA true (.int s) (.tuple [.int 0,.int 1])=some (.bool (!decide (s=0\/s=1))):=by
 have h:=iV (ts:=[0,1]) (i:=s)
 have e:eA true (.int s) (.tuple [.int 0,.int 1])=eA true (.int s) (.list [.int 0,.int 1]):=by
  have:shaped (.tuple [.int 0,.int 1])=shaped (.list [.int 0,.int 1]):=by kernel_rfl
  show (if (shaped (.int s)&&shaped (.tuple [.int 0,.int 1]))=true then some (PyData.bool (if true=true then !([.int 0,.int 1]:List D).any fun y=>PyData.eqv y (.int s) else ([.int 0,.int 1]:List D).any fun y=>PyData.eqv y (.int s))) else none)=_
  rw [this];rfl
 rw [e];refine h.trans ?_
 congr 3
 rw [Bool.eq_iff_iff,contains_iff_mem,decide_eq_true_eq];simp
theorem Ai {t:Int} {l:List Nat}:eA true (.int t) (bG l)=some (.bool (!inS l t)):=by
 have h:=iV (ts:=l.map fun t:Nat=>(t:Int)) (i:=t)
 rw [map_map] at h;refine h.trans ?_
 congr 3
 rw [Bool.eq_iff_iff,contains_iff_mem,mem_map,inS_iff]
theorem Ej {ga gb:FB} (ha:ga Γ=.ok true Γ):lV ga gb Γ=.ok true Γ:=by unfold lV;rw [ha];rfl
theorem vH {ks ls:List (Nat×Nat)} {r:Row} (h:∀p,p∈ks↔p∈ls):cU wd ks r=cU wd ls r:=by
 rw [Bool.eq_iff_iff];exact ⟨Ho fun p hp=>(h p).mp hp,Ho fun p hp=>(h p).mpr hp⟩
section
variable {P:Program} {w:World} {K:Fg} {H:Hp}
noncomputable abbrev qO (wd:Wd) (r:Row) (x3:Option PV):Ev:=[KD wd.enc,KD (bF r),none,x3]
theorem CW {Q:VK} {E:XK} (h:vE P w K vs H Q E):HR P w K { nx:=Qn,rt:=Q } (L2.start uR vs) H:=by
 obtain ⟨wd,O,v0,v1,d,ks,r,rfl,ok,nd,inH,r0,r1,hD,hi,hj,hr,q⟩:=h;show HR P w K { nx:=Qn,rt:=Q } [some v0,some v1,some (.ref d),none] H
 have inS1:∀{H'},Same H H'->∀a∈O,H' a≠none:=fun {H'} s a ha=>by
  cases e:H a with
  | none=>exact absurd e (inH a ha)
  | some u=>rw [s a u e];exact Option.some_ne_none _
 have mono:∀{H'},Same H H'->Same (aC H O) (aC H' O):=fun s=>dW s fun a ha=>.inl ha
 have EE:∀(H':Hp) (x3:Option (V×D)),Same H H'->(∀u,x3=some u->Rep K (aC H' O) u.1 u.2)->EnvOk K H' O (List.replicate (qO wd r (x3.map fun u=>(⟨.leaf,u.2⟩:PV))).length []) H' [some v0,some v1,some (.ref d),x3.map (·.1)] (qO wd r (x3.map fun u=>(⟨.leaf,u.2⟩:PV))):=fun H' x3 s h3=>by
  refine jE nd (inS1 s) rfl fun n x hx=>?_
  match n,hx with
  | 0,hx=>cases hx;exact ⟨rfl,_,rfl,r0.mono (mono s)⟩
  | 1,hx=>cases hx;exact ⟨rfl,_,rfl,r1.mono (mono s)⟩
  | 2,hx=>cases hx
  | 3,hx=>
   cases x3 with
   | none=>cases hx
   | some u=>cases hx;exact ⟨rfl,_,rfl,h3 u rfl⟩
  | n+4,hx=>cases hx
 obtain ⟨⟨i,j⟩,rs⟩:=r;have ro:∀x3,ae 1 (qO wd ((i,j),rs) x3)=.ok ⟨.leaf,bF ((i,j),rs)⟩ (qO wd ((i,j),rs) x3):=fun x3=>aj rfl
 have ro0:∀x3,eR 1 0 (qO wd ((i,j),rs) x3)=.ok ⟨.leaf,rm i⟩ (qO wd ((i,j),rs) x3):=fun x3=>dq (j:=0) (ds:=[rm i,rm j,bX rs]) (ro x3) (aK (d:=.int 0)) rfl rfl rfl
 have ro1:∀x3,eR 1 1 (qO wd ((i,j),rs) x3)=.ok ⟨.leaf,rm j⟩ (qO wd ((i,j),rs) x3):=fun x3=>dq (j:=1) (ds:=[rm i,rm j,bX rs]) (ro x3) (aK (d:=.int 1)) rfl rfl rfl
 refine oU inH (EE H none (Same.refl _) (fun _ z=>nomatch z)) (dq (j:=2) (ds:=[rm i,rm j,bX rs]) (ro none) (aK (d:=.int 2)) rfl rfl rfl) rfl fun v3 H1 s1 r3=>?_
 have r3:Rep K (aC H1 O) v3 (bX rs):=r3
 have E1:∀H',Same H1 H'->_:=fun H' s=>EE H' (some (v3,bX rs)) (s1.trans s) (fun u hu=>by cases hu;exact r3.mono (dW s fun a ha=>.inl ha))
 cases rs with
 | mk c=>
  have rv:ae 3 (qO wd ((i,j),.mk c) (KD (bX (.mk c))))=.ok ⟨.leaf,bX (.mk c)⟩ _:=aj rfl
  refine AQ (E1 H1 (Same.refl _)) (dt (s:=.leaf) (aB (dq (j:=0) (ds:=[.str "mark",.str c]) rv (aK (d:=.int 0)) rfl rfl rfl) (aK (d:=.str "mark")) (by kernel_rfl))) fun H2 s2=>ck ?_
  refine oU (inS1 (s1.trans s2)) (E1 H2 s2) (bR (ar (aj (i:=0) rfl) (ar (ro0 _) (ar (ro1 _) (ar (dq (j:=1) (ds:=[.str "mark",.str c]) rv (aK (d:=.int 1)) rfl rfl rfl) ag)))) (ur ok hi hj hr) rfl rfl) rfl fun v H3 s3 rv3=>?_
  have rv3:Rep K (aC H3 O) v (.bool (uz wd i j c)):=rv3
  cases rv3;exact q H3 ((s1.trans s2).trans s3)
 | st s t=>
  have rv:ae 3 (qO wd ((i,j),.st s t) (KD (bX (.st s t))))=.ok ⟨.leaf,bX (.st s t)⟩ _:=aj rfl
  have rv1:=dq (j:=1) (ds:=[.str "step",.int s,.int t]) rv (aK (d:=.int 1)) rfl rfl rfl
  have rv2:=dq (j:=2) (ds:=[.str "step",.int s,.int t]) rv (aK (d:=.int 2)) rfl rfl rfl
  refine AQ (E1 H1 (Same.refl _)) (dt (s:=.leaf) (aB (dq (j:=0) (ds:=[.str "step",.int s,.int t]) rv (aK (d:=.int 0)) rfl rfl rfl) (aK (d:=.str "mark")) (by kernel_rfl))) fun H2 s2=>cn ?_
  have left:=dt (s:=.leaf) (aB rv1 (de (ar (aK (d:=.int 0)) (ar (aK (d:=.int 1)) ag)) rfl rfl) IM)
  have q':∀H',Same H H'->Q (.bl (decide (s=0\/s=1)&&inS (wd.stp (if s=0 then i else j)) t&&gB wd ks i j s.toNat t.toNat)) H':=q
  by_cases hs:s=0\/s=1
  case neg=>
   rw [decide_eq_false hs] at left q'
   exact AQ (E1 H2 s2) (Ej left) fun H3 s3=>ck (q' H3 ((s1.trans s2).trans s3))
  case pos=>
   rw [decide_eq_true hs] at left q'
   have hrn:(if s=0 then i else j)<wd.n:=by split<;>assumption
   have ix:ak (ae 1) (eR 3 1) (qO wd ((i,j),.st s t) (KD (bX (.st s t))))=.ok ⟨.leaf,rm (if s=0 then i else j)⟩ (qO wd ((i,j),.st s t) (KD (bX (.st s t)))):=by
    rcases hs with rfl | rfl
    ·exact dq (j:=0) (ds:=[rm i,rm j,bX (.st 0 t)]) (ro _) rv1 rfl rfl rfl
    ·exact dq (j:=1) (ds:=[rm i,rm j,bX (.st 1 t)]) (ro _) rv1 rfl rfl rfl
   have right:=dt (s:=.leaf) (aB rv2 (xR ok (i:=0) (s:=.leaf) rfl ix hrn) Ai)
   refine AQ (E1 H2 s2) (uC left right) fun H3 s3=>?_
   have s03:=(s1.trans s2).trans s3
   cases eb:inS (wd.stp (if s=0 then i else j)) t with
   | false=>
    rw [eb] at q';exact ck (q' H3 s03)
   | true=>
    rw [eb] at q';refine cn ?_
    obtain ⟨a,ha,rfl⟩:=inS_iff.mp eb;obtain ⟨p,u,rfl,hp,_⟩:=GN r1;have hp3:SqT K H3 p [.int (i:Int),.int (j:Int),u]:=aV (hid_le.trans s03) hp
    cases r3 with
    | @tup pr us _ hq hl hrr=>
    match us,hl with
    | [a0,a1,a2],_=>
    have x1:=hrr 1 a1 _ rfl rfl
    have x2:=hrr 2 a2 _ rfl rfl
    cases x1
    cases x2;have hq3:SqT K H3 pr [a0,.int s,.int (a:Int)]:=aV (hid_le.trans (s2.trans s3)) hq
    have hsn:∃m:Nat,s=(m:Int)/\m<=1:=by
     rcases hs with rfl | rfl
     ·exact ⟨0,rfl,by omega⟩
     ·exact ⟨1,rfl,by omega⟩
    obtain ⟨m,rfl,hm⟩:=hsn;rw [Int.toNat_natCast,Int.toNat_natCast] at q';refine ⟨v0,rfl,.ref p,rfl,.inr (.inl ⟨p,_,0,_,rfl,rfl,hp3,rfl,.ref p,rfl,.inr (.inl ⟨p,_,1,_,rfl,rfl,hp3,rfl,.ref pr,rfl,.inr (.inl ⟨pr,_,1,_,rfl,rfl,hq3,rfl,.ref pr,rfl,.inr (.inl ⟨pr,_,2,_,rfl,rfl,hq3,rfl,.ref d,rfl,wd,O,v0,d,ks,i,j,m,a,rfl,ok,nd,inS1 s03,r0.mono (mono s03),hD.grow s03,hi,hj,hm,fun H' s'=>q' H' (s03.trans s')⟩)⟩)⟩)⟩)⟩
end
noncomputable def Bm (P:Program) (w:World) (K:Fg) (mg:Str->Option Value) (base:Heap) (j:Nat):Prop:=
 ∃(f:Addr) (fd:FuncData) (ps:List Str),bT P w K mg base eG j f fd ps (vE P w K)/\mg "is_row_right"=some (.ref f)/\PySem.W.keepIn K (.ref f)=true/\Binds K fd ps []
noncomputable abbrev Jh (X:Cx):Prop:=∃(k:Nat) (f:Addr) (fd:FuncData) (ps:List Str),bT X.prog X.w X.K X.mg X.base eG k f fd ps (vE X.prog X.w X.K)/\Room k X.A/\X.mg "is_row_right"=some (.ref f)/\PySem.W.keepIn X.K (.ref f)=true/\Binds X.K fd ps []
noncomputable def dB:FS:=(aI (dX (ah 2 aA (aa (ae 0) (aa (ae 1) af))))
  (dX (ah 2 aA (aa (ae 0) (aa (ae 2) af)))))
noncomputable def bI:List KB->b9:=aQ 3 dB
theorem uq {i j:Nat} (ok:wd.Ok) (hi:i<wd.n) (hj:j<wd.n):bI [wd.enc,rm i,rm j]=.ok ⟨.leaf,.none⟩:=by
 have a:=bR (Γ:=bO 3 [wd.enc,rm i,rm j]) (ar (aj (i:=0) rfl) (ar (aj (i:=1) rfl) ag)) (BL ok hi) rfl rfl
 have b:=bR (Γ:=bO 3 [wd.enc,rm i,rm j]) (ar (aj (i:=0) rfl) (ar (aj (i:=2) rfl) ag)) (BL ok hj) rfl rfl
 have x:dB (bO 3 [wd.enc,rm i,rm j])=.nx (bO 3 [wd.enc,rm i,rm j]):=by
  refine az (Γ1:=bO 3 [wd.enc,rm i,rm j]) ?_ ?_
  ·have a:ah 2 aA _ _=_:=a
   unfold dX nQ;rw [a]
  ·have b:ah 2 aA _ _=_:=b
   unfold dX nQ;rw [b]
 show aQ 3 dB _=_
 unfold aQ;rw [x]
noncomputable abbrev uS:List Str:=["world", "rows", "row", "known"]
noncomputable abbrev Bq:List Str:=["check_world", "check_pair", "is_row_right"]
noncomputable abbrev Kf:F1:=ah 3 bI (aa (ae 0) (aa (eR 2 0) (aa (eR 2 1) af)))
noncomputable def HT (P:Program) (w:World) (K:Fg):L2.TS:=aS (df (tE K W0 (ah 1 ay (aa (ae 0) af)))) (aS (cT (bf K (ai 1)) (av 2) (df (tE K W0 Kf))) (aS (b5 (B2 P w K [false,false]) (av 3))
 (aS (cT (bf K (ai 1)) (av 2) (aS (eN (zd (tB (cF (vE P w K) [] L2.E0 (ao (ai 0) (ao (ai 2) (ao (ai 3) bb)))))) (cE (tC (.bl false))) cN) (rN P w K (ai 3) (Cu K 2) (tC (.bl true))))) (cE (tC (.bl true))))))
noncomputable def fE (wd:Wd) (L:List Row):Prop:=(∀r∈L,r.1.1<wd.n/\r.1.2<wd.n/\Ja r.2)/\L.length<=900
section
variable {P:Program} {w:World} {K:Fg} {H:Hp} {O:List Addr} {wd:Wd} {L:List Row}
noncomputable abbrev GU (wd:Wd) (L:List Row) (x2:Option PV):Ev:=[KD wd.enc,KD (.list (L.map bF)),x2,none]
theorem C1 {Q:VK} (ok:wd.Ok) (hL:fE wd L) (nd:O.Nodup) (inH:∀a∈O,H a≠none) (rs:Reps K (aC H O) vs [wd.enc,.list (L.map bF)])
  (q:∀H',Same H H'->Q (.bl (cu wd [] L)) H'):HT P w K { nx:=Qn,rt:=Q } (L2.start uS vs) H:=by
 have hvl:vs.length=2:=rs.1
 obtain ⟨hL,hLn⟩:=hL;match vs,hvl,rs with
 | [v0,v1],_,rs=>
 have r0:=rs.2 0 v0 _ rfl rfl
 have r1:=rs.2 1 v1 _ rfl rfl
 show HT P w K { nx:=Qn,rt:=Q } [some v0,some v1,none,none] H
 have inS:∀{H'},Same H H'->∀a∈O,H' a≠none:=fun {H'} s a ha=>by
  cases e:H a with
  | none=>exact absurd e (inH a ha)
  | some u=>rw [s a u e];exact Option.some_ne_none _
 have mono:∀{H'},Same H H'->Same (aC H O) (aC H' O):=fun s=>dW s fun a ha=>.inl ha
 have EE:∀(H':Hp) (x3:Option V) (x2:Option (V×D)),Same H H'->(∀u,x2=some u->Rep K (aC H' O) u.1 u.2)->EnvOk K H' O (List.replicate (GU wd L (x2.map fun u=>(⟨.leaf,u.2⟩:PV))).length []) H' [some v0,some v1,x2.map (·.1),x3] (GU wd L (x2.map fun u=>(⟨.leaf,u.2⟩:PV))):=fun H' x3 x2 s h2=>by
  refine jE nd (inS s) rfl fun n x hx=>?_
  match n,hx with
  | 0,hx=>cases hx;exact ⟨rfl,_,rfl,r0.mono (mono s)⟩
  | 1,hx=>cases hx;exact ⟨rfl,_,rfl,r1.mono (mono s)⟩
  | 2,hx=>
   cases x2 with
   | none=>cases hx
   | some u=>cases hx;exact ⟨rfl,_,rfl,h2 u rfl⟩
  | 3,hx=>cases hx
  | n+4,hx=>cases hx
 have r1':=r1
 cases r1' with
 | @lst pl ws _ hq hl hr=>
 rw [length_map] at hl;have sqL:∀{H'},Same H H'->SqL K H' pl ws:=fun s=>s.seq (hid_le.seq hq)
 have at_:∀(k:Nat) v t,ws[k]?=some v->L[k]?=some t->Rep K (aC H O) v (bF t):=fun k v t e1 e2=>hr k v (bF t) e1 (by rw [getElem?_map,e2];rfl)
 refine oU inH (EE H none none (Same.refl _) (fun _ z=>nomatch z)) (bR (ar (aj (i:=0) rfl) ag) ok.check rfl rfl) rfl fun _ H1 s1 _=>?_
 refine ⟨_,rfl,pl,rfl,⟨_,sqL s1⟩,?_⟩
 refine yT (xs:=ws) (fun k U' H'=>(∃x2,U'=[some v0,some (.ref pl),x2,none])/\Same H H') ⟨⟨_,rfl⟩,s1⟩ (fun k U' H' _ h=>sqL h.2) (fun k v U' H' e h=>?_) fun U' H' h=>?_
 ·obtain ⟨⟨x2,rfl⟩,s2⟩:=h
  have hk:k<L.length:=by rw [<-hl];exact (Kw e).1
  have et:L[k]?=some L[k]:=Ks hk
  have rp:=at_ k v _ e et
  obtain ⟨hi,hj,_⟩:=hL _ (getElem_mem hk);generalize L[k]=t at rp hi hj
  refine oU (inS s2) (EE H' none (some (v,bF t)) s2 (fun u hu=>by cases hu;exact rp.mono (mono s2))) (bR (ar (aj (i:=0) rfl) (ar (dq (j:=0) (ds:=[rm t.1.1,rm t.1.2,bX t.2]) (aj (i:=2) rfl) (aK (d:=.int 0)) rfl rfl rfl) (ar (dq (j:=1) (ds:=[rm t.1.1,rm t.1.2,bX t.2]) (aj (i:=2) rfl) (aK (d:=.int 1)) rfl rfl rfl) ag))) (uq ok hi hj) rfl rfl) rfl fun _ H3 s3 _=>⟨⟨_,rfl⟩,s2.trans s3⟩
 ·obtain ⟨⟨x2,rfl⟩,s2⟩:=h
  intro d ob hd hD0;have hd0:H d=none:=s2.free hd
  have sd:Same H (upd H' d ob):=s2.trans (cb hd)
  refine ⟨_,rfl,pl,rfl,⟨_,sqL sd⟩,?_⟩
  refine yT (xs:=ws) (fun k U' H'=>(∃x2,U'=[some v0,some (.ref pl),x2,some (.ref d)])/\Same H H'/\∃ps,DG P w K H' d ps (fun _ _=>true)/\(∀p,p∈ps↔p∈(L.take k).map (·.1))/\ps.length<=k/\cu wd [] L=cu wd ((L.take k).map (·.1)) (L.drop k)) ⟨⟨_,rfl⟩,sd,[],hD0,by simp,KA _,rfl⟩ (fun k U' H' _ h=>sqL h.2.1) (fun k v U' H3 e h=>?_) fun U' H3 h=>?_
  ·obtain ⟨⟨x4,rfl⟩,s3,ps,hD,hm,hps,hh⟩:=h
   have hk:k<L.length:=by rw [<-hl];exact (Kw e).1
   have et:L[k]?=some L[k]:=Ks hk
   have rp:=at_ k v _ e et
   have hdr:L.drop k=L[k]::L.drop (k+1):=drop_eq_getElem_cons hk
   have htk:L.take (k+1)=L.take k++[L[k]]:=by rw [take_succ,et];rfl
   obtain ⟨hi,hj,hrk⟩:=hL _ (getElem_mem hk);generalize L[k]=t at rp hi hj hrk hdr htk
   rw [hdr,cu] at hh;refine ⟨v0,rfl,v,rfl,.ref d,rfl,wd,O,v0,v,d,ps,t,rfl,ok,nd,inS s3,r0.mono (mono s3),rp.mono (mono s3),⟨fun _=>.bl true,hD⟩,hi,hj,hrk,fun H4 s4=>⟨_,rfl,?_⟩⟩
   rw [vH hm];have s34:=s3.trans s4
   cases er:cU wd ((L.take k).map (·.1)) t with
   | false=>
    rw [er] at hh;have:=q H4 s34
    rw [hh] at this;exact ck this
   | true=>
    rw [er,Bool.true_and] at hh;obtain ⟨b,u,rfl,hb,_⟩:=GN rp;have hb4:SqT K H4 b _:=aV (hid_le.trans s34) hb
    refine cn ⟨.ref d,rfl,.ref b,rfl,.inr (.inl ⟨b,_,0,_,rfl,rfl,hb4,rfl,.ref b,rfl,.inr (.inl ⟨b,_,1,_,rfl,rfl,hb4,rfl,vl,fun c hc=>?_⟩)⟩)⟩
    have sc:Same H4 (upd H4 c (.tup [.int (t.1.1:Int),.int (t.1.2:Int)])):=cb hc
    have k2:K2 K (upd H4 c (.tup [.int (t.1.1:Int),.int (t.1.2:Int)])) (ky t.1.1 t.1.2) c:=BW
    have hD5:=hD.grow (s4.trans sc)
    generalize upd H4 c (.tup [.int (t.1.1:Int),.int (t.1.2:Int)])=H5 at *
    refine ⟨d,c,[false,false],_,ky t.1.1 t.1.2,rfl,rfl,hD5,k2,rfl,by rw [GF];omega,fun ob' hD'=>⟨⟨_,rfl⟩,SD.same (s34.trans sc) hd0 SD.upd,_,(by rw [oG,ya] at hD';exact hD'),fun p=>?_,?_,?_⟩⟩
    ·rw [htk,map_append,mem_append,<-hm p]
     show _↔p∈ps\/p∈[t.1]
     rw [mem_singleton];split
     ·rename_i hin
      exact ⟨.inl,fun z=>z.elim id fun y=>by rw [y];exact hin⟩
     ·rw [mem_append,mem_singleton]
    ·split
     ·omega
     ·rw [length_append,length_singleton];omega
    ·rw [htk,map_append]
     exact hh
  ·obtain ⟨⟨x4,rfl⟩,s3,ps,hD,hm,hps,hh⟩:=h
   have:=q H3 s3
   rw [hh,hl,List.drop_length] at this;exact this
end
theorem rS {a b:xA} (h:bX a=bX b):a=b:=by
 cases a<;>cases b<;>(unfold bX at h;have h:=PyData.tuple.inj h)
 ·injection h with _ h;injection h with h _;rw [PyData.str.inj h]
 ·injection h with h _;cases h
 ·injection h with h _;cases h
 ·injection h with _ h;injection h with h1 h;injection h with h2 _;rw [PyData.int.inj h1,PyData.int.inj h2]
theorem rV {M:List Row} (h:PyData.list (L.map bF)=.list (M.map bF)):L=M:=(map_inj_right (f:=bF) fun a b e=>by
 have e:=PyData.tuple.inj e
 injection e with e1 e
 injection e with e2 e
 injection e with e3 _
 exact Prod.ext (Prod.ext (Int.ofNat_inj.mp (PyData.int.inj e1)) (Int.ofNat_inj.mp (PyData.int.inj e2))) (rS e3)).mp (PyData.list.inj h)
noncomputable def J2 (ds:List KB):Prop:=∃x:Wd×List Row,ds=[x.1.enc,.list (x.2.map bF)]/\x.1.Ok/\fE x.1 x.2
open Classical in
noncomputable def aN (ds:List KB):b9:=if h:J2 ds then .ok ⟨.leaf,.bool (cu h.choose.1 [] h.choose.2)⟩ else .no
theorem AZ {w:Wd} (ok:w.Ok) (hL:fE w L):aN [w.enc,.list (L.map bF)]=.ok ⟨.leaf,.bool (cu w [] L)⟩:=by
 have H:J2 [w.enc,.list (L.map bF)]:=⟨(w,L),rfl,ok,hL⟩
 unfold aN;rw [dif_pos H];obtain ⟨e,k,_⟩:=H.choose_spec;injection e with e1 e
 injection e with e2 _
 rw [<-xf ok k e1,<-rV e2]
theorem wC {ds:List KB} {p:PV} (h:aN ds=.ok p):∃w L,ds=[w.enc,.list (L.map bF)]/\w.Ok/\fE w L/\p=⟨.leaf,.bool (cu w [] L)⟩:=by
 unfold aN at h;split at h
 ·rename_i H
  cases h;obtain ⟨e,k,k2⟩:=H.choose_spec;exact ⟨_,_,e,k,k2,rfl⟩
 ·cases h
end KC.Ap
namespace KC.Ap
open PySem PySem.Spec L2 T
open PyProof.Rows hiding St
open KC
variable {X:Cx} {N gl:List Str} {vs cs ls lo gs:List Nat} {x:Str} {p2 pos p1 p3 p6 p4 p5:Pos} {e:Expr} {scope:Scope} {K:Fg} {mg:Str->Option Value} {base:Heap} {fd:FuncData} {j1 j2 k1:Nat}
theorem bP (S:Cp X N gl vs cs ls lo gs) (i:Nat) (x:Str) (pos:Pos) (e:N[i]?=some x) (hi:vs.contains i=true):PE X (.Name x pos) (ai i):=by
 have m:=S.nm x (mem_of_getElem? e)
 exact xI (by rw [S.hN];exact e) (S.vis i x e hi) m.1 m.2
theorem qM (S:Cp X N gl vs cs ls lo gs) (i:Nat) (x:Str) (pos:Pos) (e:N[i]?=some x) (hi:ls.contains i=true):PG X (.Name x pos) (av i):=by
 have hN:X.N.Nodup:=by rw [S.hN];exact S.nd
 exact mi hN (by rw [S.hN];exact e) (S.loc i x e hi).1 (S.loc i x e hi).2
theorem rE (S:Cp X N gl vs cs ls lo gs) (i:Nat) {p:Pos} {te:TE} (hx:N[i]?=some x) (hi:ls.contains i=true) (h:PE X e te) (hs:swapsWith e (some (.Name x p)) p2.line X.env=pure false):PS X (.Assign [.Name x p] e p2) (b5 te (av i)):=by
 have hN:X.N.Nodup:=by rw [S.hN];exact S.nd
 exact qH hN (by rw [S.hN];exact hx) (S.loc i x hx hi).1 h hs (S.loc i x hx hi).2
theorem A7 {sp:Sp} {es:List Expr} {t:TA} {p:Pos} (S:Cp X N gl vs cs ls lo gs) (j:Nat) (hj:gl[j]?=some x) (hg:gs.contains j=true) (c:∃(k:Nat) (f:Addr) (fd:FuncData) (ps:List Str),bT X.prog X.w X.K X.mg X.base eG k f fd ps sp/\Room k X.A/\X.mg x=some (.ref f)/\PySem.W.keepIn X.K (.ref f)=true/\Binds X.K fd ps [])
  (ha:PA X (e::es) t) (he:starEach (e::es) X.env=(false,eval e X.env)::starEach es X.env) (hpl:(backTo pos (starEach es X.env)).any (·.1)=false) (hd:(x==("__debug__":Str))=false):PE X (.Call (.Name x p) (e::es) [] pos) (cF sp [] L2.E0 t):=by
 obtain ⟨k,f,fd,ps,F,hr,a1,a2,a3⟩:=c;exact ES F hr (S.g (j:=j) hj hg).1 a1 a2 a3 .nil om ha hd he hpl
theorem yt (S:Cp X N gl vs cs ls lo gs) (i:Nat) {k:Nat} {c:Int} (e:N[i]?=some x) (hi:vs.contains i=true):PE X (.Subscript (.Name x p1) (.Constant (.int c) k p2) p3) (zf X.K i c):=sS Gg (bP S i _ _ e hi) Gp (fun _ _=>rfl)
noncomputable def bW:Stmt:=rL 30
theorem CJ:aR lX ["world", "one", "other", "side", "there", "known"] (cf bW):=⟨rfl,rfl,rfl,by decide +kernel,rfl,by decide +kernel,by decide +kernel⟩
theorem D0:d6 lX uV [0,1,2,3,4,5] [5] [0,1,2,3,4,5] [0,1,2,3,4] [0,1] (cf bW)=true:=by kernel_rfl
theorem Dx:iW lX uV=true:=by kernel_rfl
theorem A9 (S:Cp X lX uV [0,1,2,3,4,5] [5] [0,1,2,3,4,5] [0,1,2,3,4] [0,1]) (hu:X.A.units+2<cLine) (n_all:X.mg "all"=none) {it:Expr} {p0 pos2:Pos} (hit:PE X it (tE X.K W0 F6))
  (h1:vi lX [6] [5] scope=true) (h2:d6 lX uV [5,6] [5] [6] [] [] scope=true) (hs:∀z,foldedSetIterable it X.env z=pure z) :
  PE X (.Call (.Name "all" p0) [.ListComp (.Compare (.Name "pair" p1) [.In] [.Name "known" p2] p3) [⟨.Name "pair" p6,it,[],0⟩] scope pos] [] pos2) (jV (eo X.K false) (ao (bJ [6] (bf X.K (tE X.K W0 F6)) (av 6) b3 (gG X.prog X.w X.K (ai 6) (ai 5))) bb)):=by
 have B:=fun cells C s₀ H₀ ex=>S.blk h2 cells C s₀ H₀ ex
 exact yU (Fj S.calm) (S.g (j:=0) rfl rfl).1 n_all o4 (bK (xQ (yY S h1) S.calm (nq hit)
  (fun cells C s₀ H₀ ex=>qM (B cells C s₀ H₀ ex) 6 _ _ rfl rfl)
  (fun cells C s₀ H₀ ex=>By)
  (fun cells C s₀ H₀ ex=>sU (ER (X:=L2.blk X scope cells C s₀ H₀ ex) hu (bP (B cells C s₀ H₀ ex) 6 _ _ rfl rfl) (bP (B cells C s₀ H₀ ex) 5 _ _ rfl rfl)) (by with_unfolding_all rfl)) hs) dF (aH rfl)) (S.g (j:=0) rfl rfl).2.2 (S.g (j:=0) rfl rfl).2.1 (aH rfl) rfl
theorem Ec (S:Cp X lX uV [0,1,2,3,4,5] [5] [0,1,2,3,4,5] [0,1,2,3,4] [0,1]) (R:Rm X) (n_all:X.mg "all"=none) (c:gz X "pairs_asked" 5 bu):PSs X (fG bW) (HS X.prog X.w X.K):=by
 have hu:X.A.units+2<cLine:=Nat.lt_of_le_of_lt (by omega) R
 exact dv (iH (A9 S hu n_all (TQ.Q.p (TQ.w_cc S 1 rfl rfl c (TQ.w_da_cons (TQ.w_cv S 0 rfl rfl) (TQ.w_da_cons (TQ.w_cv S 1 rfl rfl) (TQ.w_da_cons (TQ.w_cv S 2 rfl rfl) (TQ.w_da_cons (TQ.w_cv S 3 rfl rfl) (TQ.w_da_cons (TQ.w_cv S 4 rfl rfl) TQ.w_da_nil (aH rfl)) (aH rfl)) (aH rfl)) (aH rfl)) (aH rfl)) (aH rfl) rfl)) (by kernel_rfl) (by kernel_rfl) (fun _=>rfl)))
theorem ip {P:Program} {w:World} {f:Addr} {j k:Nat} (F:Fun K "is_by_step" "is_by_step" bW f fd) (hm:mg "is_by_step"=some (.ref f)) (b:Binds K fd ["world", "one", "other", "side", "there", "known"] []) (n_all:mg "all"=none)
  (c:DefOk P w K mg base j "pairs_asked" 5 bu) (hj:decide (j<=k)=true):xD P w K mg base (k+1):=by
 refine ⟨f,fd,_,F.ok CJ (fun vs H Q E h=>?_) (fun cdv A outer s H vs Q E hr h=>?_),hm,F.kp,b⟩
 ·obtain ⟨_,_,_,_,_,_,_,_,_,rfl,_⟩:=h
  rfl
 ·exact ⟨_,Ec (Cp.fn D0 Dx) hr.units n_all (c.cal hr hj),C0 h⟩
noncomputable def bV:Stmt:=rL 31
theorem CG:aR uQ ["world", "one", "other", "known"] (cf bV):=⟨rfl,rfl,rfl,by decide +kernel,rfl,by decide +kernel,by decide +kernel⟩
noncomputable abbrev Kn (X:Cx):Prop:=Cp X uQ Bo [0,1,2,3,4,5,6,7] [] [0,1,2,3,4,5,6,7] [0,1,2,3,4,5,6,7] [0,1,2,3]
theorem DX:d6 uQ Bo [0,1,2,3,4,5,6,7] [] [0,1,2,3,4,5,6,7] [0,1,2,3,4,5,6,7] [0,1,2,3] (cf bV)=true:=by kernel_rfl
theorem Du:iW uQ Bo=true:=by kernel_rfl
theorem D9 (S:Kn X) (R:Rm X) (hp:PassesOwn (model X.prog X.w) X.A X.env X.xe) (n_enum:X.mg "enumerate"=none) (c1:gz X "is_by_mark" 4 bc) (c2:Ex X) (hL:J1 X "LETTERS" oK):PSs X (fG bV) (HP X.prog X.w X.K):=by
 refine cK (nu hp S.calm (zS (TQ.Q.p (TQ.w_ck S 0 rfl rfl hL))) (qM S 4 _ _ rfl rfl) ?_ (fun _=>rfl)) ?_
 ·exact dv (dh (TQ.Q.p (TQ.w_dt_tru (TQ.w_cc S 1 rfl rfl c1 (TQ.w_da_cons (TQ.w_cv S 0 rfl rfl) (TQ.w_da_cons (TQ.w_cv S 1 rfl rfl) (TQ.w_da_cons (TQ.w_cv S 2 rfl rfl) (TQ.w_da_cons (TQ.w_cv S 4 rfl rfl) TQ.w_da_nil (aH rfl)) (aH rfl)) (aH rfl)) (aH rfl)) (aH rfl) rfl) (fun _=>rfl))) (dv (iH (u4 (bK Gq (bK (bP S 4 _ _ rfl rfl) dF (aH rfl)) (aH rfl))))) pe)
 refine cK (nu hp S.calm (oh (S.g (j:=2) rfl rfl).1 n_enum (bK (BY (bK (bP S 1 _ _ rfl rfl) (bK (bP S 2 _ _ rfl rfl) dF (aH rfl)) (aH rfl))) dF (aH rfl)) (eH rfl)) (Gr S.calm (BG (qM S 5 _ _ rfl rfl) (BG (qM S 6 _ _ rfl rfl) GM))) ?_ (fun _=>rfl)) (dv (iH Bx))
 refine dv (nu hp S.calm (nq (TQ.Q.p (TQ.w_de_idx (TQ.w_de_idx (TQ.w_cv S 0 rfl rfl) TQ.w_de_int (fun _ _=>rfl)) (TQ.w_cv S 6 rfl rfl) (fun _ _=>rfl)))) (qM S 7 _ _ rfl rfl) ?_ (fun _=>rfl))
 exact dv (dh (sJ (A7 S 3 rfl rfl c2 (bK (bP S 0 _ _ rfl rfl) (bK (bP S 1 _ _ rfl rfl) (bK (bP S 2 _ _ rfl rfl) (bK (bP S 5 _ _ rfl rfl) (bK (bP S 7 _ _ rfl rfl) (bK (bP S 3 _ _ rfl rfl) dF (aH rfl)) (aH rfl)) (aH rfl)) (aH rfl)) (aH rfl)) (aH rfl)) (aH rfl) rfl (by decide)) (fun _=>rfl)) (dv (iH (u4 (bK Gq (bK (bP S 5 _ _ rfl rfl) (bK (bP S 7 _ _ rfl rfl) dF (aH rfl)) (aH rfl)) (aH rfl))))) pe)
theorem il {P:Program} {w:World} {f:Addr} {k:Nat} (F:Fun K "reason_for" "reason_for" bV f fd) (hm:mg "reason_for"=some (.ref f)) (b:Binds K fd ["world", "one", "other", "known"] []) (n_enum:mg "enumerate"=none)
  (c1:DefOk P w K mg base j1 "is_by_mark" 4 bc) (c2:xD P w K mg base j2) (hL:lZ K mg "LETTERS" oK) (h1:decide (j1<=k)=true) (h2:decide (j2<=k)=true):Bh P w K mg base (k+1):=by
 refine ⟨f,fd,_,F.ok CG (fun vs H Q E h=>?_) (fun cdv A outer s H vs Q E hr h=>?_),hm,F.kp,b⟩
 ·obtain ⟨_,_,_,_,_,_,_,rfl,_⟩:=h
  rfl
 ·obtain ⟨f',fd',ps',F',a',b',c'⟩:=c2
  exact ⟨_,D9 (Cp.fn DX Du) hr.units PassesOwn.never n_enum (c1.cal hr h1) ⟨j2,f',fd',ps',F',hr.mono (of_decide_eq_true h2),a',b',c'⟩ hL,CV h⟩
noncomputable def cj:Stmt:=rL 32
theorem CF:aR uP ["world", "known"] (cf cj):=⟨rfl,rfl,rfl,by decide +kernel,rfl,by decide +kernel,by decide +kernel⟩
noncomputable abbrev JY (X:Cx):Prop:=Cp X uP Bn [0,1,2,3,4,5] [] [0,1,2,3,4,5] [0,1,2,3,4,5] [0,1,2]
theorem DW:d6 uP Bn [0,1,2,3,4,5] [] [0,1,2,3,4,5] [0,1,2,3,4,5] [0,1,2] (cf cj)=true:=by kernel_rfl
theorem Dt:iW uP Bn=true:=by kernel_rfl
theorem rY (S:JY X) (n_len:X.mg "len"=none):PE X (.Call (.Name "len" p1) [.Subscript (.Name "world" p2) (.Constant (.int 0) k1 p3) p4] [] p5) (ze X.K):=
 yU call_len_seq (S.g (j:=1) rfl rfl).1 n_len uE (bK (sS Gg (bP S 0 _ _ rfl rfl) Gp (fun _ _=>rfl)) dF (aH rfl)) (S.g (j:=1) rfl rfl).2.2 (S.g (j:=1) rfl rfl).2.1 (aH rfl) rfl
theorem D8 (S:JY X) (R:Rm X) (hp:PassesOwn (model X.prog X.w) X.A X.env X.xe) (n_range:X.mg "range"=none) (n_len:X.mg "len"=none) (c:Jg X):PSs X (fG cj) (HN X.prog X.w X.K):=by
 have hu:X.A.units+2<cLine:=Nat.lt_of_le_of_lt (by omega) R
 refine cK (rE S 2 rfl rfl (BY dF) rfl) ?_
 refine cK (nu hp S.calm (Hm (S.g (j:=0) rfl rfl).1 n_range (bK (rY S n_len) dF (aH rfl)) (eH rfl)) (qM S 3 _ _ rfl rfl) (dv (nu hp S.calm (Hm (S.g (j:=0) rfl rfl).1 n_range (bK (rY S n_len) dF (aH rfl)) (eH rfl)) (qM S 4 _ _ rfl rfl) ?_ (fun _=>rfl))) (fun _=>rfl)) (dv (iH (bP S 2 _ _ rfl rfl)))
 refine cK (rE S 5 rfl rfl (kH (Bz (ER hu (u4 (bK (bP S 3 _ _ rfl rfl) (bK (bP S 4 _ _ rfl rfl) dF (aH rfl)) (aH rfl))) (bP S 1 _ _ rfl rfl)) (by with_unfolding_all rfl)) Bx (A7 S 2 rfl rfl c (bK (bP S 0 _ _ rfl rfl) (bK (bP S 3 _ _ rfl rfl) (bK (bP S 4 _ _ rfl rfl) (bK (bP S 1 _ _ rfl rfl) dF (aH rfl)) (aH rfl)) (aH rfl)) (aH rfl)) (aH rfl) rfl (by decide))) rfl) ?_
 exact dv (dh (nZ oq (bP S 5 _ _ rfl rfl) Bx (by with_unfolding_all rfl)) (dv (pb (oj PySem.F.plainAttrs_list PySem.F.slot_list_append PySem.F.type_list_append Cd (bP S 2 _ _ rfl rfl) (bK (u4 (bK (bP S 3 _ _ rfl rfl) (bK (bP S 4 _ _ rfl rfl) (bK (bP S 5 _ _ rfl rfl) dF (aH rfl)) (aH rfl)) (aH rfl))) dF (aH rfl)) rfl rfl rfl (aH rfl) rfl) rfl)) pe)
theorem jz {P:Program} {w:World} {f:Addr} {j k:Nat} (F:Fun K "rows_next" "rows_next" cj f fd) (hm:mg "rows_next"=some (.ref f)) (b:Binds K fd ["world", "known"] []) (n_range:mg "range"=none) (n_len:mg "len"=none)
  (c:Bh P w K mg base j) (hj:decide (j<=k)=true):Bg P w K mg base (k+1):=by
 refine ⟨f,fd,_,F.ok CF (fun vs H Q E h=>?_) (fun cdv A outer s H vs Q E hr h=>?_),hm,F.kp,b⟩
 ·obtain ⟨_,_,_,_,_,rfl,_⟩:=h
  rfl
 ·obtain ⟨f',fd',ps',F',a',b',c'⟩:=c
  exact ⟨_,D8 (Cp.fn DW Dt) hr.units PassesOwn.never n_range n_len ⟨j,f',fd',ps',F',hr.mono (of_decide_eq_true hj),a',b',c'⟩,CU h⟩
noncomputable def cI:Stmt:=rL 33
theorem CL:aR uT ["world"] (cf cI):=⟨rfl,rfl,rfl,by decide +kernel,rfl,by decide +kernel,by decide +kernel⟩
noncomputable abbrev JX (X:Cx):Prop:=Cp X uT Br [0,1,2,3] [] [0,1,2,3] [0,1,2,3] [0]
theorem D3:d6 uT Br [0,1,2,3] [] [0,1,2,3] [0,1,2,3] [0] (cf cI)=true:=by kernel_rfl
theorem Dz:iW uT Br=true:=by kernel_rfl
theorem yF (S:JX X) (c:Ew X):PE X (.Call (.Name "rows_next" p1) [.Name "world" p2,.Name "known" p3] [] p4) (rB X.prog X.w X.K):=A7 S 0 rfl rfl c (bK (bP S 0 _ _ rfl rfl) (bK (bP S 1 _ _ rfl rfl) dF (aH rfl)) (aH rfl)) (aH rfl) rfl (by decide)
theorem Ee (S:JX X) (R:Rm X) (hp:PassesOwn (model X.prog X.w) X.A X.env X.xe) (c:Ew X):PSs X (fG cI) (HU X.prog X.w X.K):=by
 have hu:X.A.units+2<cLine:=Nat.lt_of_le_of_lt (by omega) R
 refine cK (rE S 1 rfl rfl (EZ [false,false]) rfl) ?_
 refine cK (rE S 2 rfl rfl (yF S c) rfl) ?_
 refine cK (E8 hp (E9 (bP S 2 _ _ rfl rfl) (fun _=>rfl)) ?_) (dv (iH (bP S 1 _ _ rfl rfl)))
 refine cK (nu hp S.calm (nq (bP S 2 _ _ rfl rfl)) (qM S 3 _ _ rfl rfl) ?_ (fun _=>rfl)) (dv (rE S 2 rfl rfl (yF S c) rfl))
 exact dv (kC hu (bP S 1 _ _ rfl rfl) (u4 (bK (yt S 3 rfl rfl) (bK (yt S 3 rfl rfl) dF (aH rfl)) (aH rfl))) (bP S 3 _ _ rfl rfl) rfl)
theorem kL {P:Program} {w:World} {f:Addr} {j k:Nat} (F:Fun K "all_rows" "all_rows" cI f fd) (hm:mg "all_rows"=some (.ref f)) (b:Binds K fd ["world"] [])
  (c:Bg P w K mg base j) (hj:decide (j<=k)=true):Bt P w K mg base (k+1):=by
 refine ⟨f,fd,_,F.ok CL (fun vs H Q E h=>?_) (fun cdv A outer s H vs Q E hr h=>?_),hm,F.kp,b⟩
 ·obtain ⟨_,_,_,rfl,_⟩:=h
  rfl
 ·obtain ⟨f',fd',ps',F',a',b',c'⟩:=c
  exact ⟨_,Ee (Cp.fn D3 Dz) hr.units PassesOwn.never ⟨j,f',fd',ps',F',hr.mono (of_decide_eq_true hj),a',b',c'⟩,C2 h⟩
noncomputable abbrev o8:List Str:=["all_rows", "pairs_behind_apart"]
noncomputable def cG:Stmt:=rL 36
theorem CD:aR ni ["world", "one", "other"] (cf cG):=⟨rfl,rfl,rfl,by decide +kernel,rfl,by decide +kernel,by decide +kernel⟩
noncomputable abbrev Jf (X:Cx):Prop:=Cp X ni o8 [0,1,2,3,5,6,7,8] [3,5] [0,1,2,3,5,6,7,8] [0,1,2,6,7,8] [0,1]
theorem DV:d6 ni o8 [0,1,2,3,5,6,7,8] [3,5] [0,1,2,3,5,6,7,8] [0,1,2,6,7,8] [0,1] (cf cG)=true:=by kernel_rfl
theorem Dr:iW ni o8=true:=by kernel_rfl
theorem rQ (S:Jf X):PE X (.Tuple [.Name "one" p1,.Name "other" p2] k1 p3) (yc 1 2):=u4 (bK (bP S 1 _ _ rfl rfl) (bK (bP S 2 _ _ rfl rfl) dF (aH rfl)) (aH rfl))
theorem CQ (S:Jf X) (hu:X.A.units+2<cLine) {p7 p8:Pos}
  (h1:vi ni [7] [3,5] scope=true) (h2:d6 ni o8 [3,5,7] [3,5] [7] [] [] scope=true) (hs:∀z,foldedSetIterable (.Name "rows" p5) X.env z=pure z) :
  PE X (.ListComp (.Subscript (.Name "rows" p1) (.Name "pair" p2) p3) [⟨.Name "pair" p4,.Name "rows" p5,[.Compare (.Name "pair" p6) [.In] [.Name "needed" p7] p8],0⟩] scope pos) (Cv X.prog X.w X.K):=by
 have B:=fun cells C s₀ H₀ ex=>S.blk h2 cells C s₀ H₀ ex
 exact xQ (yY S h1) S.calm (Di (bP S 3 _ _ rfl rfl))
  (fun cells C s₀ H₀ ex=>qM (B cells C s₀ H₀ ex) 7 _ _ rfl rfl)
  (fun cells C s₀ H₀ ex=>sQ (Bz (ER (X:=L2.blk X scope cells C s₀ H₀ ex) hu (bP (B cells C s₀ H₀ ex) 7 _ _ rfl rfl) (bP (B cells C s₀ H₀ ex) 5 _ _ rfl rfl)) (by with_unfolding_all rfl)))
  (fun cells C s₀ H₀ ex=>pR (X:=L2.blk X scope cells C s₀ H₀ ex) hu (bP (B cells C s₀ H₀ ex) 3 _ _ rfl rfl) (bP (B cells C s₀ H₀ ex) 7 _ _ rfl rfl) (fun _ _=>rfl)) hs
theorem D7 (S:Jf X) (R:Rm X) (hp:PassesOwn (model X.prog X.w) X.A X.env X.xe) (c1:Jj X) (c2:gz X "pairs_behind_apart" 2 m_pairs_behind):PSs X (fG cG) (HM X.prog X.w X.K):=by
 have hu:X.A.units+2<cLine:=Nat.lt_of_le_of_lt (by omega) R
 refine cK (rE S 3 rfl rfl (A7 S 0 rfl rfl c1 (bK (bP S 0 _ _ rfl rfl) dF (aH rfl)) (aH rfl) rfl (by decide)) rfl) ?_
 refine cK (dh (Bz (Fv hu (rQ S) (bP S 3 _ _ rfl rfl)) (by with_unfolding_all rfl)) (dv (iH Bx)) pe) ?_
 refine cK (rE S 5 rfl rfl (iR [false,false] hu (rQ S) dM) rfl) ?_
 refine cK (rE S 6 rfl rfl (BY (bK (rQ S) dF (aH rfl))) rfl) ?_
 refine cK (E8 hp (E9 (bP S 6 _ _ rfl rfl) (fun _=>rfl)) ?_) (dv (iH (CQ S hu (by kernel_rfl) (by kernel_rfl) (fun _=>rfl))))
 refine cK (rE S 7 rfl rfl (sW PySem.F.plainAttrs_list PySem.F.slot_list_pop PySem.F.type_list_pop tw (bP S 6 _ _ rfl rfl) rfl rfl) rfl) ?_
 refine dv (nu hp S.calm (nq (A7 S 1 rfl rfl c2 (bK (bP S 0 _ _ rfl rfl) (bK (kI hu (bP S 3 _ _ rfl rfl) (bP S 7 _ _ rfl rfl) (fun _ _=>rfl)) dF (aH rfl)) (aH rfl)) (aH rfl) rfl (by decide))) (qM S 8 _ _ rfl rfl) ?_ (fun _=>rfl))
 refine dv (dh (Bz (Fv hu (bP S 8 _ _ rfl rfl) (bP S 5 _ _ rfl rfl)) (by with_unfolding_all rfl)) ?_ pe)
 refine cK (iQ hu (bP S 5 _ _ rfl rfl) (bP S 8 _ _ rfl rfl) dM rfl) ?_
 exact dv (pb (oj PySem.F.plainAttrs_list PySem.F.slot_list_append PySem.F.type_list_append Cd (bP S 6 _ _ rfl rfl) (bK (bP S 8 _ _ rfl rfl) dF (aH rfl)) rfl rfl rfl (aH rfl) rfl) rfl)
theorem kJ {P:Program} {w:World} {f:Addr} {k:Nat} (F:Fun K "rows_for" "rows_for" cG f fd) (hm:mg "rows_for"=some (.ref f)) (b:Binds K fd ["world", "one", "other"] [])
  (c1:Bt P w K mg base j1) (c2:DefOk P w K mg base j2 "pairs_behind_apart" 2 m_pairs_behind) (h1:decide (j1<=k)=true) (h2:decide (j2<=k)=true):DefOk P w K mg base (k+1) "rows_for" 3 bE:=by
 refine ⟨f,fd,_,F.ok CD (fun vs H Q E h=>h.1) (fun cdv A outer s H vs Q E hr h=>?_),hm,F.kp,b⟩
 obtain ⟨hl,O,ds,nd,inH,rs,w'⟩:=h
 cases e:bE ds with
 | er c=>rw [e] at w';exact w'.elim
 | no=>rw [e] at w';exact w'.elim
 | ok p=>
  rw [e] at w';obtain ⟨wd,i,j,rfl,ok,hi,hj,rfl⟩:=wB e;obtain ⟨f',fd',ps',F',a',b',c'⟩:=c1;exact ⟨_,D7 (Cp.fn DV Dr) hr.units PassesOwn.never ⟨j1,f',fd',ps',F',hr.mono (of_decide_eq_true h1),a',b',c'⟩ (c2.cal hr h2),CT ok hi hj nd inH rs w'⟩
noncomputable def bC:Stmt:=rL 39
theorem CH:aR uR ["world", "row", "known"] (cf bC):=⟨rfl,rfl,rfl,by decide +kernel,rfl,by decide +kernel,by decide +kernel⟩
noncomputable abbrev Kl (X:Cx):Prop:=Cp X uR Bp [0,1,2,3] [] [0,1,2,3] [0,1,2,3] [0,1]
theorem DY:d6 uR Bp [0,1,2,3] [] [0,1,2,3] [0,1,2,3] [0,1] (cf bC)=true:=by kernel_rfl
theorem Dv:iW uR Bp=true:=by kernel_rfl
theorem Ea (S:Kl X) (R:Rm X) (c1:gz X "is_by_mark" 4 bc) (c2:Ex X):PSs X (fG bC) (HR X.prog X.w X.K):=by
 refine cK (rE S 3 rfl rfl (TQ.Q.p (TQ.w_de_idx (TQ.w_cv S 1 rfl rfl) TQ.w_de_int (fun _ _=>rfl))) rfl) ?_
 refine cK (dh (TQ.Q.p (TQ.w_ct (gN R) (TQ.w_de_idx (TQ.w_cv S 3 rfl rfl) TQ.w_de_int (fun _ _=>rfl)) TQ.w_de_str (by with_unfolding_all rfl))) (dv (iH (TQ.Q.p (TQ.w_cc S 0 rfl rfl c1 (TQ.w_da_cons (TQ.w_cv S 0 rfl rfl) (TQ.w_da_cons (TQ.w_de_idx (TQ.w_cv S 1 rfl rfl) TQ.w_de_int (fun _ _=>rfl)) (TQ.w_da_cons (TQ.w_de_idx (TQ.w_cv S 1 rfl rfl) TQ.w_de_int (fun _ _=>rfl)) (TQ.w_da_cons (TQ.w_de_idx (TQ.w_cv S 3 rfl rfl) TQ.w_de_int (fun _ _=>rfl)) TQ.w_da_nil (aH rfl)) (aH rfl)) (aH rfl)) (aH rfl)) (aH rfl) rfl)))) pe) ?_
 refine cK (dh (TQ.Q.p (TQ.w_pw_pt (TQ.w_dw_or (TQ.w_ct (nY R) (TQ.w_de_idx (TQ.w_cv S 3 rfl rfl) TQ.w_de_int (fun _ _=>rfl)) (TQ.w_de_tup (TQ.w_da_cons TQ.w_de_int (TQ.w_da_cons TQ.w_de_int TQ.w_da_nil (aH rfl)) (aH rfl))) (by with_unfolding_all rfl)) (TQ.w_dw_or1 (TQ.w_ct (nY R) (TQ.w_de_idx (TQ.w_cv S 3 rfl rfl) TQ.w_de_int (fun _ _=>rfl)) (TQ.w_de_idx (TQ.w_de_idx (TQ.w_cv S 0 rfl rfl) TQ.w_de_int (fun _ _=>rfl)) (TQ.w_de_idx (TQ.w_cv S 1 rfl rfl) (TQ.w_de_idx (TQ.w_cv S 3 rfl rfl) TQ.w_de_int (fun _ _=>rfl)) (fun _ _=>rfl)) (fun _ _=>rfl)) (by with_unfolding_all rfl)))))) (dv (iH dM)) pe) ?_
 exact dv (iH (A7 S 1 rfl rfl c2 (bK (bP S 0 _ _ rfl rfl) (bK (yt S 1 rfl rfl) (bK (yt S 1 rfl rfl) (bK (yt S 3 rfl rfl) (bK (yt S 3 rfl rfl) (bK (bP S 2 _ _ rfl rfl) dF (aH rfl)) (aH rfl)) (aH rfl)) (aH rfl)) (aH rfl)) (aH rfl)) (aH rfl) rfl (by decide)))
theorem fX {P:Program} {w:World} {f:Addr} {k:Nat} (F:Fun K "is_row_right" "is_row_right" bC f fd) (hm:mg "is_row_right"=some (.ref f)) (b:Binds K fd ["world", "row", "known"] [])
  (c1:DefOk P w K mg base j1 "is_by_mark" 4 bc) (c2:xD P w K mg base j2) (h1:decide (j1<=k)=true) (h2:decide (j2<=k)=true):Bm P w K mg base (k+1):=by
 refine ⟨f,fd,_,F.ok CH (fun vs H Q E h=>?_) (fun cdv A outer s H vs Q E hr h=>?_),hm,F.kp,b⟩
 ·obtain ⟨_,_,_,_,_,_,_,rfl,_⟩:=h
  rfl
 ·obtain ⟨f',fd',ps',F',a',b',c'⟩:=c2
  exact ⟨_,Ea (Cp.fn DY Dv) hr.units (c1.cal hr h1) ⟨j2,f',fd',ps',F',hr.mono (of_decide_eq_true h2),a',b',c'⟩,CW h⟩
noncomputable def br:Stmt:=rL 40
theorem CK:aR uS ["world", "rows"] (cf br):=⟨rfl,rfl,rfl,by decide +kernel,rfl,by decide +kernel,by decide +kernel⟩
noncomputable abbrev Km (X:Cx):Prop:=Cp X uS Bq [0,1,2,3] [] [0,1,2,3] [0,1,2,3] [0,1,2]
theorem D1:d6 uS Bq [0,1,2,3] [] [0,1,2,3] [0,1,2,3] [0,1,2] (cf br)=true:=by kernel_rfl
theorem Dy:iW uS Bq=true:=by kernel_rfl
theorem Ed (S:Km X) (R:Rm X) (hp:PassesOwn (model X.prog X.w) X.A X.env X.xe) (c1:gz X "check_world" 1 ay) (c2:gz X "check_pair" 3 bI) (c3:Jh X):PSs X (fG br) (HT X.prog X.w X.K):=by
 have hu:X.A.units+2<cLine:=Nat.lt_of_le_of_lt (by omega) R
 refine cK (pb (TQ.Q.p (TQ.w_cc S 0 rfl rfl c1 (TQ.w_da_cons (TQ.w_cv S 0 rfl rfl) TQ.w_da_nil (aH rfl)) (aH rfl) rfl)) rfl) ?_
 refine cK (nu hp S.calm (nq (bP S 1 _ _ rfl rfl)) (qM S 2 _ _ rfl rfl) (dv (pb (TQ.Q.p (TQ.w_cc S 1 rfl rfl c2 (TQ.w_da_cons (TQ.w_cv S 0 rfl rfl) (TQ.w_da_cons (TQ.w_de_idx (TQ.w_cv S 2 rfl rfl) TQ.w_de_int (fun _ _=>rfl)) (TQ.w_da_cons (TQ.w_de_idx (TQ.w_cv S 2 rfl rfl) TQ.w_de_int (fun _ _=>rfl)) TQ.w_da_nil (aH rfl)) (aH rfl)) (aH rfl)) (aH rfl) rfl)) rfl)) (fun _=>rfl)) ?_
 refine cK (rE S 3 rfl rfl (EZ [false,false]) rfl) ?_
 refine cK (nu hp S.calm (nq (bP S 1 _ _ rfl rfl)) (qM S 2 _ _ rfl rfl) ?_ (fun _=>rfl)) (dv (iH dM))
 refine cK (dh (sL (sJ (A7 S 2 rfl rfl c3 (bK (bP S 0 _ _ rfl rfl) (bK (bP S 2 _ _ rfl rfl) (bK (bP S 3 _ _ rfl rfl) dF (aH rfl)) (aH rfl)) (aH rfl)) (aH rfl) rfl (by decide)) (fun _=>rfl))) (dv (iH dM)) pe) ?_
 exact dv (oe hu (bP S 3 _ _ rfl rfl) (u4 (bK (yt S 2 rfl rfl) (bK (yt S 2 rfl rfl) dF (aH rfl)) (aH rfl))) dM rfl)
theorem fC {P:Program} {w:World} {f:Addr} {j3 k:Nat} (F:Fun K "are_unlike_by" "are_unlike_by" br f fd) (hm:mg "are_unlike_by"=some (.ref f)) (b:Binds K fd ["world", "rows"] [])
  (c1:DefOk P w K mg base j1 "check_world" 1 ay) (c2:DefOk P w K mg base j2 "check_pair" 3 bI) (c3:Bm P w K mg base j3) (h1:decide (j1<=k)=true) (h2:decide (j2<=k)=true) (h3:decide (j3<=k)=true):DefOk P w K mg base (k+1) "are_unlike_by" 2 aN:=by
 refine ⟨f,fd,_,F.ok CK (fun vs H Q E h=>h.1) (fun cdv A outer s H vs Q E hr h=>?_),hm,F.kp,b⟩
 obtain ⟨hl,O,ds,nd,inH,rs,w'⟩:=h
 cases e:aN ds with
 | er c=>rw [e] at w';exact w'.elim
 | no=>rw [e] at w';exact w'.elim
 | ok p=>
  rw [e] at w';obtain ⟨wd,L,rfl,ok,hL,rfl⟩:=wC e;obtain ⟨f',fd',ps',F',a',b',c'⟩:=c3;exact ⟨_,Ed (Cp.fn D1 Dy) hr.units PassesOwn.never (c1.cal hr h1) (c2.cal hr h2) ⟨j3,f',fd',ps',F',hr.mono (of_decide_eq_true h3),a',b',c'⟩,C1 ok hL nd inH rs fun H' s=>w' _ H' [] ⟨s,(fun _ z=>nomatch z),(fun _ z=>nomatch z),nodup_nil,.leaf (.bl _),rfl⟩⟩
end KC.Ap
namespace KC.Ap.L
open PySem PySem.Spec L2 T
open PyProof.Rows hiding St
open KC
variable {Γ:Ev} {a:Int} {n:Nat} {fa:F1}
noncomputable def uw:FS:=(aI (dX (ah 1 ay (aa (ae 0) af)))
  (aI (dX (ah 3 bI (aa (ae 0) (aa (ae 1) (aa (ae 2) af)))))
  (bh (ah 3 bE (aa (ae 0) (aa (ae 1) (aa (ae 2) af)))))))
noncomputable def m_unlike:List KB->b9:=aQ 3 uw
open PySem.SeqAt
theorem uF {ga gb:FB} (ha:ga Γ=.ok false Γ):gx ga gb Γ=.ok false Γ:=by unfold gx;rw [ha];rfl
theorem JN {a b:Bool}:eC (.bool a) (.bool b)=some (.bool (a==b)):=by cases a<;>cases b<;>kernel_rfl
noncomputable def kx (a:Int) (n:Nat):Nat:=(a % (n:Int)).toNat
theorem lg (hn:0<n):a % (n:Int)=(kx a n:Int)/\kx a n<n:=by
 have h1:0<=a % (n:Int):=Int.emod_nonneg _ (by omega)
 have h2:a % (n:Int)<n:=Int.emod_lt_of_pos _ (by omega)
 unfold kx;omega
theorem v_mod {fb:F1} {s s':Sh} (ha:fa Γ=.ok ⟨s,.int a⟩ Γ) (hb:fb Γ=.ok ⟨s',.int (n:Int)⟩ Γ) (hn:0<n):aE bS fa fb Γ=.ok ⟨.leaf,rm (kx a n)⟩ Γ:=by
 have:=aB (g:=bS) ha hb (dk (a:=a) (b:=(n:Int)) (by omega))
 rw [(lg hn).1] at this;exact this
theorem v_div {s:Sh} {b:Int} (ha:fa Γ=.ok ⟨s,.int a⟩ Γ) (h1:0<b) (h2:b<1073741824):aE gp fa (eK (.int b)) Γ=.ok ⟨.leaf,.int (a / b)⟩ Γ:=aB ha (aK (d:=.int b)) (oW h1 h2)
theorem nD {i:Nat} {ds:List D} (h:Γ[i]?=some (some ⟨.lst .leaf,.list ds⟩)):xE i Γ=.ok ⟨.lst .leaf,.list ds⟩ Γ:=by
 unfold xE;have:vn Γ[i]?=true:=by rw [h];rfl
 rw [if_pos this,h]
theorem rW {w:Wd} (ok:w.Ok) {ks:List (Nat×Nat)} {r:Row} (h:cU w ks r=true):Ja r.2:=by
 unfold cU at h;split at h
 ·rename_i c e
  rw [e];show PyData.strOk c=true
  unfold uz at h
  cases e1:(w.mks r.1.1).contains c with
  | true=>exact oB ok c (List.contains_iff_mem.mp e1)
  | false=>
   cases e2:(w.mks r.1.2).contains c with
   | true=>exact oB ok c (List.contains_iff_mem.mp e2)
   | false=>rw [e1,e2] at h;cases h
 ·rename_i s t e;rw [e];exact True.intro
theorem rO {w:Wd} (ok:w.Ok) {i j:Nat} (h:(i,j)∈(bQ w).map (·.1)):fE w (va w i j):=by
 obtain ⟨_,h2,h3,_⟩:=rP ok h;obtain ⟨I,_⟩:=xH ok;refine ⟨fun r hr=>⟨(h2 r hr).1,(h2 r hr).2,?_⟩,by omega⟩
 obtain ⟨k,hk,e⟩:=getElem_of_mem (List.mem_filter.mp hr).1;exact rW ok (I.ok k r (by rw [Ks hk,e]))
theorem rR {w:Wd} {i j:Nat}:(pD w i j).s.isView=false:=by unfold pD;split<;>rfl
theorem g7 {w:Wd} {i j:Nat} (ok:w.Ok) (hi:i<w.n) (hj:j<w.n):m_unlike [w.enc,rm i,rm j]=.ok (pD w i j):=by
 have drop:∀{fa:F1} {p:PV} {Γ:Ev},fa Γ=.ok p Γ->dX fa Γ=.nx Γ:=fun h=>by unfold dX nQ;rw [h]
 exact bj (az (drop (bR (Γ:=bO 3 [w.enc,rm i,rm j]) (ar (aj (i:=0) rfl) ag) ok.check rfl rfl)) (az (drop (bR (ar (aj (i:=0) rfl) (ar (aj (i:=1) rfl) (ar (aj (i:=2) rfl) ag))) (uq ok hi hj) rfl rfl)) (aW (bR (ar (aj (i:=0) rfl) (ar (aj (i:=1) rfl) (ar (aj (i:=2) rfl) ag))) (jG ok hi hj) rfl rfl) rR)))
end KC.Ap.L
namespace T
open PySem PySem.Spec L2
open PyProof.Rows hiding St
variable {g1 g2:FS} {Γ:Ev} {o:eF}
def Gc (K:Fg) (mg:Str->Option Value) (m n:Str) (s:Stmt):Prop:=∃f fd,mg m=some (.ref f)/\Fun K n n s f fd
theorem ft2 {K:Fg} {h:Heap} {mg:Str->Option Value} {m n:Str} {s:Stmt} {f:Addr} {od an:Option Addr} {sl:Array (Option Value)} {oc kV dc pm cd ct:Value} (X:K.In h) (G:h.Ns mainGlobals mg) (a:PySem.W.nsIn K mainGlobals m=some (some (.ref f))) (l:K.lookup f=some ⟨oc,od,.func (PySem.W.fnOf n n (yS s) (fG s) (cf s) .none kV dc pm an cd ct),sl⟩) (c:PySem.W.codeIn K cd n=true) (k:PySem.W.keepIn K (.ref f)=true):Gc K mg m n s:=⟨f,_,PySem.W.mg_of X G a,ue (st:=s) l c k⟩
section
variable {p:Fg->(Str->Option Value)->Prop} {P:Program} {w:World} {K:Fg} {mg:Str->Option Value} {base:Heap} {k:Nat} {x y:Str} {s:Stmt} {g:FS}
theorem JJ (F:Gc K mg y x s) (e:p K mg) (ps:List Str) (b:qP x s ps) (rs gl:List Str) (vs cs gs:List Nat) (hb:Bd p P w K mg base k (ps++rs) gl vs cs gs s g) (h:fB (ps++rs) gl ps vs cs gs s=true:=by kernel_rfl):DefOk P w K mg base (k+1) y ps.length (aQ (ps++rs).length g):=by
 obtain ⟨f,fd,hm,F⟩:=F;exact ⟨f,fd,ps,IH F e _ gl vs cs gs h hb,hm,F.kp,nk F b⟩
end
def mC (i:Nat) (g1 g2:FS):FS:=fun Γ=>if vn Γ[i]? then g1 Γ else g2 Γ
theorem y0 {i:Nat} (h:vn Γ[i]?=true) (e:g1 Γ=o):mC i g1 g2 Γ=o:=by unfold mC;rw [h];exact e
theorem y1 {i:Nat} (h:vn Γ[i]?=false) (e:g2 Γ=o):mC i g1 g2 Γ=o:=by unfold mC;rw [h];exact e
end T
namespace TQ
open PySem PySem.Spec L2 T
open PyProof.Rows hiding St
theorem rd {X:Cx} {W:XW} {st:Stmt} {i:Nat} {g1 g2:FS} (h1:Q (PS X st (tS X.K W g1))) (h2:Q (PS X st (tS X.K W g2))):Q (PS X st (tS X.K W (mC i g1 g2))):=⟨by
 have h1:=h1.p
 have h2:=h2.p
 intro pins s U H D I h;obtain ⟨He,O,Fs,Γ,E,h⟩:=h;unfold mC at h
 cases hc:vn Γ[i]? with
 | true=>rw [hc] at h;exact h1 pins s U H D I ⟨He,O,Fs,Γ,E,h⟩
 | false=>rw [hc] at h;exact h2 pins s U H D I ⟨He,O,Fs,Γ,E,h⟩⟩
end TQ
namespace KC.Ap.M
open PySem PySem.Spec L2 T
open PyProof.Rows hiding St
open KC
variable {N:List Nat} {L:List (Nat×Nat)} {Γ Γ1:Ev} {ss:List Sh}
noncomputable def fj:FS:=(aI (aP true 3 (qh (gx (bo aw (aE eC (aE bS (ah 2 ax (aa (ae 0) (aa (eK (.int 1)) af))) (eK (.int 2))) (eK (.int 1)))) (bo aw (aE (cW true) (ae 2) (eK .none)))) (cz 2) (bz .leaf af)))
  (aI (ig 4 (gm (aa (aE bS (ah 2 ax (aa (ae 0) (aa (eK (.int 2)) af))) (eK (.int 8))) af))
  (aI (aP false 5 (ah 3 au (aa (ah 2 ax (aa (ae 0) (aa (eK (.int 3)) af))) (aa (ae 4) (aa (eK (.int 36)) af)))))
  (jY 3 (cy (aa (aE bS (ae 5) (ae 1)) (aa (aE bS (aE gp (ae 5) (eK (.int 6))) (ae 1)) af))))))
  (bh (cz 3))))
noncomputable def dz:List KB->b9:=mX 6 [.leaf,.leaf,.lst .leaf] fj
noncomputable def cV:List KB->b9:=mX 6 [.leaf,.leaf,.leaf] fj
noncomputable def DU:FS:=(aI (aP false 1 (ah 3 bx (aa (ae 0) (aa (eK (.int 6)) (aa (eK (.int 6)) af)))))
  (aI (aP false 2 (cX bZ (aa (ak (ae 1) (eK (.int 0))) af)))
  (aI (aP false 3 (aE bS (ah 2 ax (aa (ae 0) (aa (eK (.int 0)) af))) (ae 2)))
  (aI (aP false 4 (aE bS (aE gp (ah 2 ax (aa (ae 0) (aa (eK (.int 0)) af))) (eK (.int 6))) (ae 2)))
  (aI (aP true 5 (ah 4 bN (aa (ae 1) (aa (ae 3) (aa (ae 4) (aa (eK (.bool false)) af))))))
  (aI (aP true 6 (ah 3 KC.Ap.L.m_unlike (aa (ae 1) (aa (ae 3) (aa (ae 4) af)))))
  (aI (fz (bo aw (aE eC (aE (cW false) (ae 5) (eK .none)) (aE (cW false) (ae 6) (eK .none)))) (bh (eK (.bool false))) bt)
  (aI (fz (gx (bo aw (aE (cW true) (ae 5) (eK .none))) (bo aw (aE (lB true) (ah 3 aJ (aa (ae 1) (aa (xE 5) (aa (eK (.bool false)) af)))) (eK (.bool true))))) (bh (eK (.bool false))) bt)
  (aI (fz (gx (bo aw (aE (cW true) (ae 6) (eK .none))) (bo aw (aE (lB true) (ah 2 aN (aa (ae 1) (aa (xE 6) af))) (eK (.bool true))))) (bh (eK (.bool false))) bt)
  (aI (mC 5 (gJ false 7 [.leaf,.leaf,.lst .leaf] dz (aa (ae 0) (aa (ae 2) (aa (cz 5) af)))) (gJ false 7 [.leaf,.leaf,.leaf] cV (aa (ae 0) (aa (ae 2) (aa (cz 5) af)))))
  (aI (fz (bo aw (aE (lB true) (ah 3 aJ (aa (ae 1) (aa (qJ (ae 7)) (aa (eK (.bool false)) af)))) (eK (.bool true)))) (bh (eK (.bool true))) bt)
  (aI (fI 8 9 (bA (ae 7))
  (fz (lV (bo aw (aE (cW true) (ah 3 KC.Ap.L.m_unlike (aa (ae 1) (aa (ae 8) (aa (ae 9) af)))) (eK .none))) (bo aw (aE (cW false) (ah 4 bN (aa (ae 1) (aa (ae 8) (aa (ae 9) (aa (eK (.bool false)) af))))) (eK .none)))) (bh (eK (.bool false))) bt))
  (bh (eK (.bool true)))))))))))))))
noncomputable def tG:List KB->b9:=aQ 10 DU
open PySem.SeqAt
open KC.Ap.L
noncomputable def Ps (w:Wd) (L:List (Nat×Nat)):Prop:=∀p∈L,p.1<w.n/\p.2<w.n
section
variable {w:Wd} {o:Bool} {i j:Nat}
theorem qD (ok:w.Ok) {m:Nat} (g:CN w o N m) (h:lY w N (i,j)):ve w o (qE w N i j)=true:=by
 have W:=uJ ok g h
 unfold ve;rw [all_eq_true];intro p hp;have lk:=W.b.ok p hp
 have cl:∀q∈m6 w N p,q∈qE w N i j:=(W.cl p hp).resolve_left nofun
 rw [Bool.and_eq_true];refine ⟨lkK_iff.mp (g.look p.1 p.2 lk.1 lk.2.1 lk.2.2),prB_iff.mpr ⟨fun t ht=>?_,fun r hr=>?_⟩⟩
 ·obtain ⟨h1,_⟩:=EA (N:=N) (r:=t) (rs:=w.stp p.2) (let ⟨u,hu,e⟩:=g.st p.1 p.2 lk.1 lk.2.1 lk.2.2 t ht;⟨u,hu,e.symm⟩)
  exact ⟨_,h1,decide_eq_true (cl _ (Kp _ (List.mem_map.mpr ⟨t,ht,rfl⟩)))⟩
 ·obtain ⟨h1,_⟩:=EA (N:=N) (r:=r) (rs:=w.stp p.1) (let ⟨u,hu,e⟩:=g.st p.2 p.1 lk.2.1 lk.1 lk.2.2.symm r hr;⟨u,hu,e.symm⟩)
  exact ⟨_,h1,decide_eq_true (cl _ (Ko _ (List.mem_map.mpr ⟨r,hr,rfl⟩)))⟩
theorem uI (ok:w.Ok) {m:Nat} (g:CN w o N m) (h:lY w N (i,j)):Ps w (qE w N i j)/\(qE w N i j).length<=576:=by
 have W:=uJ ok g h
 exact ⟨fun p hp=>⟨(W.b.ok p hp).1,(W.b.ok p hp).2.1⟩,EN ok.h24 W.b.nd W.b.ok⟩
theorem Eo (h:ve w o L=true) {p:Nat×Nat} (hp:p∈L):Lk w o p.1 p.2:=by
 unfold ve at h;rw [all_eq_true] at h;have key:∀a b,(a,b)∈L->nO w o a b=true/\yk w (fun a b=>decide ((a,b)∈L)) a b=true:=fun a b hab=>by
  have:=h (a,b) hab
  rw [Bool.and_eq_true] at this;exact this
 refine ⟨fun a b=>(a,b)∈L,⟨fun a b _ _ hab=>(key a b hab).1,fun a b _ _ hab t ht=>?_,fun a b _ _ hab r hr=>?_⟩,hp⟩
 ·obtain ⟨r,hr,e⟩:=(prB_iff.mp (key a b hab).2).1 t ht
  exact ⟨r,hr,of_decide_eq_true e⟩
 ·obtain ⟨t,ht,e⟩:=(prB_iff.mp (key a b hab).2).2 r hr
  exact ⟨t,ht,of_decide_eq_true e⟩
theorem iL (ok:w.Ok) (hi:i<w.n) (hj:j<w.n) (h:Lk w false i j):pD w i j=⟨.leaf,.none⟩/\∃L,qF w false i j=⟨.lst .leaf,.list (L.map bY)⟩/\Ps w L/\L.length<=576/\ve w false L=true:=by
 obtain ⟨m,ks,en,g,_,_,_,lc⟩:=Gy ok (o:=false)
 have hn:=(tJ g lc hi hj).mp h
 refine ⟨by unfold pD;rw [if_neg fun z=>(oH ok hi hj).mp z h],qE w (qx w false) i j,by unfold qF;rw [if_pos hn],(uI ok g ⟨hi,hj,hn⟩).1,(uI ok g ⟨hi,hj,hn⟩).2,qD ok g ⟨hi,hj,hn⟩⟩
theorem ka (ok:w.Ok) (hi:i<w.n) (hj:j<w.n) (h:¬Lk w false i j):qF w false i j=⟨.leaf,.none⟩/\∃L,pD w i j=⟨.lst .leaf,.list (L.map bF)⟩/\fE w L/\cu w [] L=true:=by
 obtain ⟨m,ks,en,g,_,_,_,lc⟩:=Gy ok (o:=false)
 have hn:¬nA (qx w false) i=nA (qx w false) j:=fun z=>h ((tJ g lc hi hj).mpr z)
 have hk:=(oH ok hi hj).mpr h
 exact ⟨by unfold qF;rw [if_neg hn],va w i j,by unfold pD;rw [if_pos hk],rO ok hk,(rP ok hk).1⟩
end
theorem rk {c:FB} {fa fb:F1} {t:Bool} {p:PV} (hc:c Γ=.ok t Γ) (ha:t=true->fa Γ=.ok p Γ1) (hb:t=false->fb Γ=.ok p Γ1):qh c fa fb Γ=.ok p Γ1:=by
 unfold qh;rw [hc];simp only [vj]
 cases t with
 | true=>exact ha rfl
 | false=>exact hb rfl
noncomputable abbrev GQ (xs:List D) (n:Nat) (x2:Option PV) (x3 x4 x5:Option PV):Ev:=[KD (.list xs),KD (.int (n:Int)),x2,x3,x4,x5]
noncomputable abbrev ez (L:List (Nat×Nat)):Option PV:=some ⟨.lst .leaf,.list (L.map bY)⟩
noncomputable abbrev yD:FS:=aI (aP false 5 (ah 3 au (aa (ah 2 ax (aa (ae 0) (aa (eK (.int 3)) af))) (aa (ae 4) (aa (eK (.int 36)) af)))))
  (jY 3 (cy (aa (aE bS (ae 5) (ae 1)) (aa (aE bS (aE gp (ae 5) (eK (.int 6))) (ae 1)) af))))
section
variable {w:Wd} {xs:List D}
theorem GT (hx:eE xs) (hw:1<=w.n) {x2:Option PV} (hL:Ps w L) (hn:L.length<=576):∃L',(aI (ig 4 (gm (aa (aE bS (ah 2 ax (aa (ae 0) (aa (eK (.int 2)) af))) (eK (.int 8))) af)) yD) (bh (cz 3))) (GQ xs w.n x2 (ez L) none none)=.rt ⟨.lst .leaf,.list (L'.map bY)⟩/\Ps w L'/\L'.length<=600:=by
 obtain ⟨c2,e2⟩:=xS hx (k:=2) (by omega)
 obtain ⟨c3,e3⟩:=xS hx (k:=3) (by omega)
 have hm:c2 % 8=((c2 % 8).toNat:Int)/\(c2 % 8).toNat<8:=by omega
 obtain ⟨Γ',ef,L',x4,x5,rfl,hL',hn'⟩:=i8 rm (i:=4) (body:=yD) (Inv:=fun rest Γ=>∃L' x4 x5,Γ=GQ xs w.n x2 (ez L') x4 x5/\Ps w L'/\L'.length+rest.length<=590/\∀a∈rest,a<8) (fun a rest Γ h=>by
  obtain ⟨L',x4,x5,rfl,hL',hn',hr⟩:=h;rw [length_cons] at hn';have ha:=hr a mem_cons_self
  obtain ⟨r,er,r0,r1⟩:=G6 (c:=c3) (k:=(a:Int)) (b:=36) (by omega) (by omega) (by omega) (by omega)
  have s0:=fx (i:=5) (bR (n:=3) (ar (bR (n:=2) (ar (aj (Γ:=GQ xs w.n x2 (ez L') (KD (rm a)) x5) (i:=0) rfl) (ar (aK (d:=.int 3)) ag)) e3 rfl rfl) (ar (aj (i:=4) rfl) (ar (aK (d:=.int 36)) ag))) er rfl rfl) rfl (by simp)
  have ap:=Fi (Γ:=GQ xs w.n x2 (ez L') (KD (rm a)) (KD (.int r))) (i:=3) (s:=.leaf) (ds:=L'.map bY) rfl (de (ar (v_mod (aj (i:=5) rfl) (aj (i:=1) rfl) (n:=w.n) (by omega)) (ar (v_mod (v_div (aj (i:=5) rfl) (by omega:(0:Int)<6) (by omega)) (aj (i:=1) rfl) (n:=w.n) (by omega)) ag)) rfl rfl) rfl (by rw [length_map];omega)
  refine ⟨by simp,GQ xs w.n x2 (ez (L'++[(kx r w.n,kx (r / 6) w.n)])) (KD (rm a)) (KD (.int r)),az s0 (ap.trans ?_),_,_,_,rfl,fun p hp=>?_,?_,fun b hb=>hr b (Ku _ hb)⟩
  ·rw [show ez (L'++[(kx r w.n,kx (r / 6) w.n)])=some ⟨.lst .leaf,.list (L'.map bY++[bY (kx r w.n,kx (r / 6) w.n)])⟩ from congrArg (fun x=>some (⟨.lst .leaf,.list x⟩:PV)) map_append]
   rfl
  ·rcases Kq hp with y | y
   ·exact hL' p y
   ·rw [List.mem_singleton.mp y]
    exact ⟨(lg hw).2,(lg hw).2⟩
  ·simp;omega) (List.range (c2 % 8).toNat) (GQ xs w.n x2 (ez L) none none) ⟨L,none,none,rfl,hL,by simp;omega,fun a ha=>by have:=List.mem_range.mp ha;omega⟩
 have hn'':L'.length<=590:=by simpa using hn'.1
 exact ⟨L',az (qU (o6 (s:=.leaf) (n:=(c2 % 8).toNat) (by omega) (ar ((aB (g:=bS) (bR (ar (aj (i:=0) rfl) (ar aK ag)) e2 rfl rfl) (aK (d:=.int 8)) (dk (by omega))).trans (by rw [<-hm.1])) ag)) ef) (aW (yN (i:=3) rfl) rfl),hL',by omega⟩
theorem zl {n:Nat} {g:FS} {ds:List D} {p:PV} (h:g (xJ n ss ds)=.rt p):mX n ss g ds=.ok p:=by unfold mX;rw [h]
theorem mW (hx:eE xs) (hw:1<=w.n) (hL:Ps w L) (hn:L.length<=576):∃L',dz [.list xs,.int (w.n:Int),.list (L.map bY)]=.ok ⟨.lst .leaf,.list (L'.map bY)⟩/\Ps w L'/\L'.length<=600:=by
 obtain ⟨c1,e1⟩:=xS hx (k:=1) (by omega)
 have t:gx (bo aw (aE eC (aE bS (ah 2 ax (aa (ae 0) (aa (eK (.int 1)) af))) (eK (.int 2))) (eK (.int 1)))) (bo aw (aE (cW true) (ae 2) (eK .none))) (GQ xs w.n (ez L) none none none)=.ok ((c1 % 2==1)&&true) (GQ xs w.n (ez L) none none none):=oZ (dt (s:=.leaf) (aB (aB (bR (ar (aj (i:=0) rfl) (ar aK ag)) e1 rfl rfl) aK (dk (by omega))) aK KC.eq_int)) (dt (s:=.leaf) (aB (j6 (i:=2) rfl) aK rfl))
 cases e:(c1 % 2==1) with
 | true=>
  rw [e] at t;obtain ⟨L',h1,h2,h3⟩:=GT (x2:=none) hx hw hL hn
  exact ⟨L',zl (az (Γ1:=GQ xs w.n none (ez L) none none) (xO (p:=⟨.lst .leaf,.list (L.map bY)⟩) (rk (Γ1:=GQ xs w.n none none none none) t (fun _=>yN (i:=2) rfl) nofun) rfl (by simp)) h1),h2,h3⟩
 | false=>
  rw [e] at t;obtain ⟨L',h1,h2,h3⟩:=GT (x2:=ez L) (L:=[]) hx hw (fun _ z=>nomatch z) (by simp)
  exact ⟨L',zl (az (Γ1:=GQ xs w.n (ez L) (ez []) none none) (xO (p:=⟨.lst .leaf,.list []⟩) (rk (Γ1:=GQ xs w.n (ez L) none none none) t nofun (fun _=>qI ag rfl rfl rfl)) rfl (by simp)) h1),h2,h3⟩
theorem mV (hx:eE xs) (hw:1<=w.n):∃L',cV [.list xs,.int (w.n:Int),.none]=.ok ⟨.lst .leaf,.list (L'.map bY)⟩/\Ps w L'/\L'.length<=600:=by
 obtain ⟨c1,e1⟩:=xS hx (k:=1) (by omega)
 have t:gx (bo aw (aE eC (aE bS (ah 2 ax (aa (ae 0) (aa (eK (.int 1)) af))) (eK (.int 2))) (eK (.int 1)))) (bo aw (aE (cW true) (ae 2) (eK .none))) (GQ xs w.n (KD (.none)) none none none)=.ok ((c1 % 2==1)&&false) (GQ xs w.n (KD (.none)) none none none):=oZ (dt (s:=.leaf) (aB (aB (bR (ar (aj (i:=0) rfl) (ar aK ag)) e1 rfl rfl) aK (dk (by omega))) aK KC.eq_int)) (dt (s:=.leaf) (aB (aj (i:=2) rfl) aK rfl))
 rw [Bool.and_false] at t;obtain ⟨L',h1,h2,h3⟩:=GT (x2:=some ⟨.leaf,.none⟩) (L:=[]) hx hw (fun _ z=>nomatch z) (by simp)
 exact ⟨L',zl (az (Γ1:=GQ xs w.n (KD (.none)) (ez []) none none) (xO (p:=⟨.lst .leaf,.list []⟩) (rk (Γ1:=GQ xs w.n (KD (.none)) none none none) t nofun (fun _=>qI ag rfl rfl rfl)) rfl (by simp)) h1),h2,h3⟩
end
theorem nz {fl:FL} {ps:List PV} {p:PV} {j:Nat} {den:List D->b9} (hl:fl Γ=.ok ps Γ1) (hd:den (ps.map (·.d))=.ok p) (hok:vb ss ps=true) (hj:j<Γ1.length) (hv:p.s.isView=false):gJ false j ss den fl Γ=.nx (Γ1.set j (KD p.d)):=by
 unfold gJ;rw [hl];simp only [hok,decide_eq_true hj,Bool.and_self,if_true,hd,hv];rfl
theorem CS {w:Wd} {i j:Nat}:(qF w false i j).s.isView=false:=by unfold qF;split<;>rfl
noncomputable abbrev GB (xs:List D) (w:Wd) (i j:Nat) (x5 x6 x7 x8 x9:Option PV):Ev:=[KD (.list xs),KD w.enc,KD (.int (w.n:Int)),KD (rm i),KD (rm j),x5,x6,x7,x8,x9]
noncomputable abbrev IV:FS:=(aI (fz (bo aw (aE (lB true) (ah 3 aJ (aa (ae 1) (aa (qJ (ae 7)) (aa (eK (.bool false)) af)))) (eK (.bool true)))) (bh (eK (.bool true))) bt)
  (aI (fI 8 9 (bA (ae 7))
  (fz (lV (bo aw (aE (cW true) (ah 3 KC.Ap.L.m_unlike (aa (ae 1) (aa (ae 8) (aa (ae 9) af)))) (eK .none))) (bo aw (aE (cW false) (ah 4 bN (aa (ae 1) (aa (ae 8) (aa (ae 9) (aa (eK (.bool false)) af))))) (eK .none)))) (bh (eK (.bool false))) bt))
  (bh (eK (.bool true)))))
theorem IL {a b:Bool}:lB true (.bool a) (.bool b)=some (.bool (a != b)):=rfl
theorem yB {xs:List D} {w:Wd} (ok:w.Ok) {i j:Nat} {x5 x6:Option PV} (hL:Ps w L) (hn:L.length<=600):IV (GB xs w i j x5 x6 (KD (.list (L.map bY))) none none)=.rt ⟨.leaf,.bool true⟩:=by
 have t:=dt (s:=.leaf) (aB (bR (ar (aj (Γ:=GB xs w i j x5 x6 (KD (.list (L.map bY))) none none) (i:=1) rfl) (ar (Fb (aj (i:=7) rfl) rfl) (ar (aK (d:=.bool false)) ag))) (uu ok hL (by omega)) rfl rfl) (aK (d:=.bool true)) IL)
 cases e:ve w false L with
 | false=>
  rw [e] at t;exact yO (bU (t:=true) t (fun _=>aW aK rfl) nofun)
 | true=>
  rw [e] at t;refine az (bU (t:=false) t nofun (fun _=>rfl)) ?_
  obtain ⟨Γ',ef,x8,x9,rfl,_⟩:=g6 (fun p:Nat×Nat=>(rm p.1,rm p.2)) (i:=8) (j:=9) (body:=fz (lV (bo aw (aE (cW true) (ah 3 KC.Ap.L.m_unlike (aa (ae 1) (aa (ae 8) (aa (ae 9) af)))) (eK .none))) (bo aw (aE (cW false) (ah 4 bN (aa (ae 1) (aa (ae 8) (aa (ae 9) (aa (eK (.bool false)) af))))) (eK .none)))) (bh (eK (.bool false))) bt) (Inv:=fun rest Γ=>∃x8 x9,Γ=GB xs w i j x5 x6 (KD (.list (L.map bY))) x8 x9/\∀p∈rest,p∈L) (fun p rest Γ h=>by
   obtain ⟨x8,x9,rfl,hr⟩:=h;have hp:=hr p mem_cons_self
   obtain ⟨h1,h2⟩:=hL p hp;obtain ⟨u,M,a,_,_,_⟩:=iL ok h1 h2 (Eo e hp);have du:=g7 ok h1 h2
   have da:=jb (o:=false) ok h1 h2
   rw [u] at du;rw [a] at da;refine ⟨by simp,GB xs w i j x5 x6 (KD (.list (L.map bY))) (KD (rm p.1)) (KD (rm p.2)),?_,_,_,rfl,fun q hq=>hr q (Ku _ hq)⟩
   exact bU (t:=false) (uC (a:=false) (b:=false) (dt (s:=.leaf) (aB (bR (ar (aj (i:=1) rfl) (ar (aj (i:=8) rfl) (ar (aj (i:=9) rfl) ag))) du rfl rfl) aK rfl)) (dt (s:=.leaf) (aB (bR (ar (aj (i:=1) rfl) (ar (aj (i:=8) rfl) (ar (aj (i:=9) rfl) (ar aK ag)))) da rfl rfl) aK rfl))) nofun (fun _=>rfl)) L (GB xs w i j x5 x6 (KD (.list (L.map bY))) none none) ⟨none,none,rfl,fun _ h=>h⟩
  exact az (yZ (cM (s:=.leaf) (aj (i:=7) rfl) rfl) ef) (aW aK rfl)
open Classical in
theorem xh {xs:List D} (hx:eE xs):tG [.list xs]=.ok ⟨.leaf,.bool true⟩:=by
 obtain ⟨w,ok,hw6,e1⟩:=qp hx (a:=6) (l:=6) (by omega) (by omega) (by omega)
 have h1:=ok.h1
 have h24:=ok.h24
 obtain ⟨c,e2⟩:=xS hx (k:=0) (by omega)
 have s1:aP false 1 (ah 3 bx (aa (ae 0) (aa (eK (.int 6)) (aa (eK (.int 6)) af)))) (bO 10 [.list xs])=.nx ((bO 10 [.list xs]).set 1 (KD w.enc)):=fx (bR (ar (aj rfl) (ar aK (ar aK ag))) e1 rfl rfl) rfl (by simp [bO])
 refine bj (az s1 ?_)
 have hos:w.os.length=w.n:=ok.g.lo
 refine az (fx (dS (d:=.int (w.n:Int)) (ar (dq (j:=0) (s2:=.leaf) (aj (i:=1) rfl) aK rfl rfl rfl) ag) (by show some (PyData.int _)=_;rw [hos])) rfl (by simp [bO])) ?_
 refine az (fx (v_mod (bR (ar (aj (i:=0) rfl) (ar aK ag)) e2 rfl rfl) (aj (i:=2) rfl) (by omega)) rfl (by simp [bO])) ?_
 refine az (fx (v_mod (v_div (bR (ar (aj (i:=0) rfl) (ar aK ag)) e2 rfl rfl) (by omega:(0:Int)<6) (by omega)) (aj (i:=2) rfl) (by omega)) rfl (by simp [bO])) ?_
 generalize hi:kx c w.n=i
 generalize hj:kx (c / 6) w.n=j
 have hi':i<w.n:=by rw [<-hi];exact (lg (by omega)).2
 have hj':j<w.n:=by rw [<-hj];exact (lg (by omega)).2
 refine az (Γ1:=GB xs w i j (some (qF w false i j)) none none none none) (xO (bR (ar (aj (i:=1) rfl) (ar (aj (i:=3) rfl) (ar (aj (i:=4) rfl) (ar aK ag)))) (jb (o:=false) ok hi' hj') rfl rfl) CS (by simp [bO])) ?_
 refine az (Γ1:=GB xs w i j (some (qF w false i j)) (some (pD w i j)) none none none) (xO (bR (ar (aj (i:=1) rfl) (ar (aj (i:=3) rfl) (ar (aj (i:=4) rfl) ag))) (g7 ok hi' hj') rfl rfl) rR (by simp)) ?_
 by_cases lk:Lk w false i j
 ·obtain ⟨u,M,a,hM,hn,hs⟩:=iL ok hi' hj' lk
  rw [u,a];obtain ⟨L',el,hL',hn'⟩:=mW hx h1 hM hn;have ab:=uu (o:=false) ok hM (by omega)
  rw [hs] at ab;refine az (bU (t:=false) (dt (s:=.leaf) (aB (aB (j6 (i:=5) rfl) aK rfl) (aB (aj (i:=6) rfl) aK rfl) (JN (a:=false) (b:=true)))) nofun (fun _=>rfl)) ?_
  refine az (bU (t:=false) (oZ (a:=true) (b:=false) (dt (s:=.leaf) (aB (j6 (i:=5) rfl) aK rfl)) (dt (s:=.leaf) (aB (bR (ar (aj (i:=1) rfl) (ar (nD (i:=5) rfl) (ar aK ag))) ab rfl rfl) (aK (d:=.bool true)) (IL (a:=true) (b:=true))))) nofun (fun _=>rfl)) ?_
  refine az (bU (t:=false) (uF (dt (s:=.leaf) (aB (aj (i:=6) rfl) aK rfl))) nofun (fun _=>rfl)) ?_
  refine az (Γ1:=GB xs w i j none (KD (.none)) (KD (.list (L'.map bY))) none none) (y0 rfl (nz (ar (aj (i:=0) rfl) (ar (aj (i:=2) rfl) (ar (yN (i:=5) (p:=⟨.lst .leaf,.list (M.map bY)⟩) rfl) ag))) el rfl (by simp) rfl)) ?_
  exact yB ok hL' hn'
 ·obtain ⟨u,M,a,hM,hs⟩:=ka ok hi' hj' lk
  rw [u,a];obtain ⟨L',el,hL',hn'⟩:=mV (w:=w) hx h1
  have ab:=AZ ok hM
  rw [hs] at ab;refine az (bU (t:=false) (dt (s:=.leaf) (aB (aB (aj (i:=5) rfl) aK rfl) (aB (j6 (i:=6) rfl) aK rfl) (JN (a:=true) (b:=false)))) nofun (fun _=>rfl)) ?_
  refine az (bU (t:=false) (uF (dt (s:=.leaf) (aB (aj (i:=5) rfl) aK rfl))) nofun (fun _=>rfl)) ?_
  refine az (bU (t:=false) (oZ (a:=true) (b:=false) (dt (s:=.leaf) (aB (j6 (i:=6) rfl) aK rfl)) (dt (s:=.leaf) (aB (bR (ar (aj (i:=1) rfl) (ar (nD (i:=6) rfl) ag)) ab rfl rfl) (aK (d:=.bool true)) (IL (a:=true) (b:=true))))) nofun (fun _=>rfl)) ?_
  refine az (Γ1:=GB xs w i j none (some ⟨.lst .leaf,.list (M.map bF)⟩) (KD (.list (L'.map bY))) none none) (y1 rfl (nz (ar (aj (i:=0) rfl) (ar (aj (i:=2) rfl) (ar (yN (i:=5) (p:=⟨.leaf,.none⟩) rfl) ag))) el rfl (by simp) rfl)) ?_
  exact yB ok hL' hn'
theorem law_true (ns:List Int) (hl:ns.length<=63):tG [.list (ns.map .int)]=.ok ⟨.leaf,.bool true⟩:=xh B7
end KC.Ap.M
namespace KC.Ap.M
open PySem PySem.Spec L2 T TQ
open PyProof.Rows hiding St
open KC
noncomputable def fU (n:Nat):Stmt:=(PySem.Challenge.pw_foreseehall_k45_whole_like_or_unlike.main.body)[n]!
noncomputable def kg:Stmt:=fU 8
noncomputable def km:Stmt:=fU 9
noncomputable def kj:Stmt:=fU 10
noncomputable def kh:Stmt:=fU 11
noncomputable def mB:Stmt:=fU 12
noncomputable def ie:Stmt:=fU 13
noncomputable def ju:Stmt:=fU 14
noncomputable def pC:Stmt:=fU 17
noncomputable def fV:Stmt:=fU 18
noncomputable def eQ:Stmt:=fU 19
noncomputable def fW:Stmt:=fU 20
noncomputable def pB:Stmt:=fU 21
noncomputable def dg:Stmt:=fU 22
noncomputable def ic:Stmt:=fU 28
noncomputable def jt:Stmt:=fU 29
noncomputable def dJ:Stmt:=fU 34
noncomputable def jv:Stmt:=fU 37
noncomputable def rK:Stmt:=fU 38
noncomputable def gH:Stmt:=fU 42
noncomputable def ko:Stmt:=fU 43
noncomputable def jw:Stmt:=fU 44
noncomputable def kn:Stmt:=fU 45
noncomputable def eV:Stmt:=fU 46
noncomputable def jx:Stmt:=fU 47
noncomputable def CP:Stmt:=fU 48
structure Gl (K:Fg) (mg:Str->Option Value):Prop where
 n0:mg "len"=none
 n1:mg "range"=none
 n2:mg "all"=none
 n3:mg "tuple"=none
 n4:mg "sorted"=none
 n5:mg "set"=none
 n6:mg "enumerate"=none
 n7:mg "list"=none
 n8:mg "any"=none
 n9:mg "int"=none
 h0:lZ K mg "LETTERS" b8
 h1:lZ K mg "MOST_ROOMS" dA
 h2:lZ K mg "PLAYERS" b7
structure Al (K:Fg) (mg:Str->Option Value):Prop where
 g:Gl K mg
 f0:Ft K mg "is_rising" kg
 f1:Ft K mg "are_marks" km
 f2:Ft K mg "are_rooms" kj
 f3:Ft K mg "are_steps" kh
 f4:Ft K mg "is_world" mB
 f5:Ft K mg "check_world" ie
 f6:Ft K mg "check_room" ju
 f7:Ft K mg "numbered" cH
 f8:Ft K mg "look_of" pC
 f9:Ft K mg "classes_ahead" fV
 f10:Ft K mg "parted_by_steps" eQ
 f11:Ft K mg "class_numbers" fW
 f12:Ft K mg "partner" pB
 f13:Gc K mg "pairs_behind_likeness" "pairs_behind" dg
 f14:Ft K mg "alike" eU
 f15:Ft K mg "is_pair_right" bq
 f16:Ft K mg "are_alike_by" bD
 f17:Ft K mg "pairs_asked" ic
 f18:Ft K mg "is_by_mark" jt
 f19:Ft K mg "is_by_step" bW
 f20:Ft K mg "reason_for" bV
 f21:Ft K mg "rows_next" cj
 f22:Ft K mg "all_rows" cI
 f23:Gc K mg "pairs_behind_apart" "pairs_behind" dJ
 f24:Ft K mg "rows_for" cG
 f25:Ft K mg "check_pair" jv
 f26:Ft K mg "unlike" rK
 f27:Ft K mg "is_row_right" bC
 f28:Ft K mg "are_unlike_by" br
 f29:Ft K mg "_law_cell_at" gH
 f30:Ft K mg "_law_draw" ko
 f31:Ft K mg "_law_world" jw
 f32:Ft K mg "_law_twin" kn
 f33:Ft K mg "_law_like_world" eV
 f34:Ft K mg "_law_pairs" jx
 f35:Ft K mg "law" CP
section
variable {P:Program} {w:World} {K:Fg} {mg:Str->Option Value} {base:Heap} (A:Al K mg)
include A
theorem fO:DefOk P w K mg base 1 "is_rising" 1 cP:=mk A.f0 A.g ["entries"] Ba ["k"] ["len", "range", "all"] [0] [0] [0,1,2] fun X S I hp=>
 (dR (BH S 2 rfl rfl I.e.n2 (aT (j8 [0,1] [0] [] S 1 (Cj S 1 rfl rfl I.e.n1 (aY w_de_int (aT (rl S 0 I.e.n0 (aT (aq S 0))))) (rD rfl rfl) (eH rfl)) (fun _ _ _=>jZ) (fun Y1 S1 F1=>have I:=F1.i I;(u9 (sE I.r) (cx (aq S1 0) (qX (aq S1 1) w_de_int)) (cx (aq S1 0) (aq S1 1)))))) (aH rfl) rfl))
theorem kQ:DefOk P w K mg base 2 "are_marks" 1 cR:=mk A.f1 A.g ["entries"] Ba ["entry"] ["LETTERS", "all", "is_rising"] [0] [] [1,2] fun X S I hp=>
 (dR (Fe (BH S 1 rfl rfl I.e.n2 (aT (j8 [1] [] [0] S 1 (nt (aq S 0)) (fun _ _ _=>jZ) (fun Y1 S1 F1=>have I:=F1.i I;(u9 (sG I.r) (aq S1 1) (w_ck S1 0 rfl rfl I.e.h0))))) (aH rfl) rfl) (Fh (cB S 2 (I.c (fO A)) (aT (aq S 0))))))
theorem kP:DefOk P w K mg base 2 "are_rooms" 2 dP:=mk A.f2 A.g ["entries", "size"] vd ["entry"] ["all", "is_rising"] [0,1] [1] [0,1] fun X S I hp=>
 (dR (Fe (BH S 0 rfl rfl I.e.n2 (aT (j8 [1,2] [1] [] S 2 (nt (aq S 0)) (fun _ _ _=>jZ) (fun Y1 S1 F1=>have I:=F1.i I;(Cn (De I.r) (sE I.r) w_de_int (aq S1 2) (aq S1 1) (by with_unfolding_all rfl))))) (aH rfl) rfl) (Fh (cB S 1 (I.c (fO A)) (aT (aq S 0))))))
theorem kO:DefOk P w K mg base 3 "are_steps" 2 cQ:=mk A.f3 A.g ["entries", "size"] vd [] ["len", "are_rooms"] [0,1] [] [0,1] fun X S I hp=>
 (dR (Fe (u9 (vZ I.r) (rl S 0 I.e.n0 (aT (aq S 0))) w_de_int) (Fh (cB S 1 (I.c (kP A)) (aY (aq S 0) (aT (aq S 1)))))))
theorem mH:DefOk P w K mg base 4 "is_world" 3 dw:=mk A.f4 A.g ["owners", "marks", "steps"] oY ["size", "owner", "row"] ["len", "MOST_ROOMS", "PLAYERS", "all", "are_marks", "are_steps"] [0,1,2,3] [3] [0,1,3] fun X S I hp=>
 (b4 (dU S false 3 (rl S 0 I.e.n0 (aT (aq S 0)))) (b4 (md (w_pw_pt (w_dw_or (fw (sE I.r) (aq S 3) w_de_int) (w_dw_or (fw (vZ I.r) (aq S 3) (w_ck S 1 rfl rfl I.e.h1)) (w_dw_or (fw (pN I.r) (rl S 0 I.e.n0 (aT (aq S 1))) (aq S 3)) (w_dw_or1 (fw (pN I.r) (rl S 0 I.e.n0 (aT (aq S 2))) (aq S 3))))))) (dR ml) me) (b4 (md (Hi (w_dt_tru (BH S 3 rfl rfl I.e.n2 (aT (j8 [4] [] [2] S 4 (nt (aq S 0)) (fun _ _ _=>jZ) (fun Y1 S1 F1=>have I:=F1.i I;(u9 (sG I.r) (aq S1 4) (w_ck S1 2 rfl rfl I.e.h2))))) (aH rfl) rfl) (fun _=>rfl))) (dR ml) me) (dR (Fe (BH S 3 rfl rfl I.e.n2 (aT (j8 [5] [] [4] S 5 (nt (aq S 1)) (fun _ _ _=>jZ) (fun Y2 S2 F2=>have I:=F2.i I;(cB S2 4 (I.c (kQ A)) (aT (aq S2 5)))))) (aH rfl) rfl) (Fh (BH S 3 rfl rfl I.e.n2 (aT (j8 [3,5] [3] [5] S 5 (nt (aq S 2)) (fun _ _ _=>jZ) (fun Y3 S3 F3=>have I:=F3.i I;(cB S3 5 (I.c (kO A)) (aY (aq S3 5) (aT (aq S3 3))))))) (aH rfl) rfl)))))))
theorem FA:DefOk P w K mg base 5 "check_world" 1 ay:=mk A.f5 A.g ["world"] Ba [] ["is_world"] [0] [] [0] fun X S I hp=>
 (mq (md (Hi (w_dt_tru (cB S 0 (I.c (mH A)) (aY (cx (aq S 0) w_de_int) (aY (cx (aq S 0) w_de_int) (aT (cx (aq S 0) w_de_int))))) (fun _=>rfl))) (mq nB) me))
theorem Fq:DefOk P w K mg base 1 "check_room" 2 aA:=mk A.f6 A.g ["world", "room"] vd [] ["len"] [0,1] [] [0] fun X S I hp=>
 (mq (md (Hi (Ci (De I.r) (sE I.r) w_de_int (aq S 1) (rl S 0 I.e.n0 (aT (cx (aq S 0) w_de_int))) (by with_unfolding_all rfl))) (mq nB) me))
theorem gQ:DefOk P w K mg base 1 "numbered" 1 qT:=match A.f7 with | ⟨_,_,hm,F⟩=>kK F hm (nk F Ba) A.g.n0
theorem iT:DefOk P w K mg base 1 "look_of" 3 bH:=mk A.f8 A.g ["world", "room", "owned"] oY ["marks"] ["tuple"] [0,1,2,3] [] [0] fun X S I hp=>
 (b4 (dU S false 3 (gC S 0 rfl rfl I.e.n3 (cx (cx (aq S 0) w_de_int) (aq S 1)) (eH rfl))) (dR (EV (w_dt_tru (aq S 2) (fun _=>rfl)) (w_de_tup (aY (aq S 3) (aT (cx (cx (aq S 0) w_de_int) (aq S 1))))) (w_de_tup (aT (aq S 3))))))
theorem gc:DefOk P w K mg base 1 "classes_ahead" 2 bM:=mk A.f9 A.g ["numbers", "steps"] vd ["there"] ["sorted", "set"] [0,1] [0] [0,1] fun X S I hp=>
 (dR (jo S 0 1 rfl rfl I.e.n4 rfl rfl I.e.n5 (aT (j8 [0,2] [0] [] S 2 (nt (aq S 1)) (fun _ _ _=>jZ) (fun Y1 S1 F1=>(cx (aq S1 0) (aq S1 2))))) (eH rfl) (eH rfl)))
theorem cO:DefOk P w K mg base 2 "parted_by_steps" 2 aL:=mk A.f10 A.g ["world", "numbers"] vd ["room", "steps"] ["enumerate", "classes_ahead", "tuple", "numbered"] [0,1] [1] [0,3] fun X S I hp=>
 (dR (cB S 3 (I.c (gQ A)) (aT (Cm (vs':=[1,2,3]) (cs':=[1]) (lo':=[]) (gs':=[1,2]) S .leaf 2 3 0 rfl rfl rfl rfl rfl I.e.n6 (by kernel_rfl) (by kernel_rfl) (cx (aq S 0) w_de_int) (eH rfl) (fun _ _ _=>jZ) (fun Y1 S1 F1=>have I:=F1.i I;(w_de_tup (aY (cx (aq S1 1) (aq S1 2)) (aT (gC S1 2 rfl rfl I.e.n3 (cB S1 1 (I.c (gc A)) (aY (aq S1 1) (aT (aq S1 3)))) (eH rfl)))))) (fun _=>rfl)))))
theorem gg:DefOk P w K mg base 3 "class_numbers" 2 aM:=mk A.f11 A.g ["world", "owned"] vd ["numbers", "parted", "room"] ["len", "range", "look_of", "numbered", "parted_by_steps"] [0,1,2,3] [0,1] [0,1,3,4] fun X S I hp=>
 (b4 (dU S false 2 (cB S 3 (I.c (gQ A)) (aT (j8 [0,1,4] [0,1] [2] S 4 (eL S 1 rfl rfl I.e.n1 (aT (rl S 0 I.e.n0 (aT (cx (aq S 0) w_de_int)))) (eH rfl)) (fun _ _ _=>jZ) (fun Y1 S1 F1=>have I:=F1.i I;(cB S1 2 (I.c (iT A)) (aY (aq S1 0) (aY (aq S1 4) (aT (aq S1 1)))))))))) (b4 (dU S false 3 (cB S 4 (I.c (cO A)) (aY (aq S 0) (aT (aq S 2))))) (b4 (mr 1000 hp (fw (pN I.r) (aq S 3) (aq S 2)) (b4 (dU S false 2 (aq S 3)) (mq (dU S false 3 (cB S 4 (I.c (cO A)) (aY (aq S 0) (aT (aq S 2)))))))) (dR (aq S 2)))))
theorem iS:DefOk P w K mg base 1 "partner" 3 cC:=mk A.f12 A.g ["numbers", "room", "rooms"] oY ["other"] [] [0,1,2] [0,1] [] fun X S I hp=>
 (b4 (md (fw (sG I.r) (aq S 1) (aq S 2)) (dR (aq S 1)) me) (dR (cx (j8 [0,1,3] [0,1] [] S 3 (nt (aq S 2)) (fun Y1 S1 F1=>have I:=F1.i I;Hh (fw (gN I.r) (cx (aq S1 0) (aq S1 3)) (cx (aq S1 0) (aq S1 1)))) (fun Y1 S1 F1=>have I:=F1.i I;(aq S1 3))) w_de_int)))
theorem dj:DefOk P w K mg base 2 "pairs_behind_likeness" 3 KC.m_pairs_behind:=JJ A.f13 A.g ["world", "numbers", "pair"] oY ["firsts", "seconds", "onward", "first", "second"] ["partner"] [0,1,2,3,4,5] [1,3,4] [] fun X S I hp=>
 (b4 (dU S false 3 (cx (cx (aq S 0) w_de_int) (cx (aq S 2) w_de_int))) (b4 (dU S false 4 (cx (cx (aq S 0) w_de_int) (cx (aq S 2) w_de_int))) (b4 (eJ (vs':=[1,4,6]) (cs':=[1,4]) (lo':=[]) (gs':=[0]) S false 5 .leaf 6 rfl rfl rfl rfl (by kernel_rfl) (by kernel_rfl) (by kernel_rfl) (nt (aq S 3)) (fun _ _ _=>jZ) (fun Y1 S1 F1=>have I:=F1.i I;(w_de_tup (aY (aq S1 6) (aT (cB S1 0 (I.c (iS A)) (aY (aq S1 1) (aY (aq S1 6) (aT (aq S1 4))))))))) (fun _=>rfl)) (dR (rf (aq S 5) (j8 [1,3,7] [1,3] [0] S 7 (nt (aq S 4)) (fun _ _ _=>jZ) (fun Y2 S2 F2=>have I:=F2.i I;(w_de_tup (aY (cB S2 0 (I.c (iS A)) (aY (aq S2 1) (aY (aq S2 7) (aT (aq S2 3))))) (aT (aq S2 7)))))))))))
theorem ou:DefOk P w K mg base 6 "alike" 4 bN:=match A.f14 with | ⟨_,_,hm,F⟩=>tf F hm (nk F F7) A.g.n7 (FA A) (Fq A) (gg A) (dj A) rfl rfl rfl rfl
theorem fZ:uU P w K mg base 2:=match A.f15 with | ⟨_,_,hm,F⟩=>fA F hm (nk F F7) A.g.n2 A.g.n8 (iT A) rfl
theorem dO:DefOk P w K mg base 6 "are_alike_by" 3 aJ:=match A.f16 with | ⟨_,_,hm,F⟩=>fY F hm (nk F oY) A.g.n2 (FA A) (Fq A) (fZ A) rfl rfl rfl
theorem dZ:DefOk P w K mg base 1 "pairs_asked" 5 bu:=mk A.f17 A.g ["world", "one", "other", "side", "there"] Kj ["against"] [] [0,1,2,3,4] [4] [] fun X S I hp=>
 (b4 (md (fw (gN I.r) (aq S 3) w_de_int) (dR (j8 [4,5] [4] [] S 5 (nt (cx (cx (aq S 0) w_de_int) (aq S 2))) (fun _ _ _=>jZ) (fun Y1 S1 F1=>(w_de_tup (aY (aq S1 4) (aT (aq S1 5))))))) me) (dR (j8 [4,5] [4] [] S 5 (nt (cx (cx (aq S 0) w_de_int) (aq S 1))) (fun _ _ _=>jZ) (fun Y2 S2 F2=>(w_de_tup (aY (aq S2 5) (aT (aq S2 4))))))))
theorem eZ:DefOk P w K mg base 1 "is_by_mark" 4 bc:=mk A.f18 A.g ["world", "one", "other", "letter"] F7 [] [] [0,1,2,3] [] [] fun X S I hp=>
 (dR (u9 (pN I.r) (u9 (sG I.r) (aq S 3) (cx (cx (aq S 0) w_de_int) (aq S 1))) (u9 (sG I.r) (aq S 3) (cx (cx (aq S 0) w_de_int) (aq S 2)))))
theorem eY:xD P w K mg base 2:=match A.f19 with | ⟨_,_,hm,F⟩=>ip F hm (nk F Ki) A.g.n2 (dZ A) rfl
theorem jA:Bh P w K mg base 3:=match A.f20 with | ⟨_,_,hm,F⟩=>il F hm (nk F F7) A.g.n6 (eZ A) (eY A) A.g.h0 rfl rfl
theorem kN:Bg P w K mg base 4:=match A.f21 with | ⟨_,_,hm,F⟩=>jz F hm (nk F vd) A.g.n1 A.g.n0 (jA A) rfl
theorem mI:Bt P w K mg base 5:=match A.f22 with | ⟨_,_,hm,F⟩=>kL F hm (nk F Ba) (kN A) rfl
theorem dN:DefOk P w K mg base 2 "pairs_behind_apart" 2 KC.Ap.m_pairs_behind:=JJ A.f23 A.g ["world", "row"] vd [] ["pairs_asked"] [0,1] [] [0] fun X S I hp=>
 (dR (EV (fw (gN I.r) (cx (cx (aq S 1) w_de_int) w_de_int) w_de_str) (qK .leaf w_da_nil) (cB S 0 (I.c (dZ A)) (aY (aq S 0) (aY (cx (aq S 1) w_de_int) (aY (cx (aq S 1) w_de_int) (aY (cx (cx (aq S 1) w_de_int) w_de_int) (aT (cx (cx (aq S 1) w_de_int) w_de_int)))))))))
theorem mG:DefOk P w K mg base 6 "rows_for" 3 bE:=match A.f24 with | ⟨_,_,hm,F⟩=>kJ F hm (nk F oY) (mI A) (dN A) rfl rfl
theorem e7:DefOk P w K mg base 2 "check_pair" 3 bI:=mk A.f25 A.g ["world", "one", "other"] oY [] ["check_room"] [0,1,2] [] [0] fun X S I hp=>
 (b4 (Fn (cB S 0 (I.c (Fq A)) (aY (aq S 0) (aT (aq S 1)))) rfl) (mq (Fn (cB S 0 (I.c (Fq A)) (aY (aq S 0) (aT (aq S 2)))) rfl)))
theorem kM:DefOk P w K mg base 7 "unlike" 3 KC.Ap.L.m_unlike:=mk A.f26 A.g ["world", "one", "other"] oY [] ["check_world", "check_pair", "rows_for"] [0,1,2] [] [0,1,2] fun X S I hp=>
 (b4 (Fn (cB S 0 (I.c (FA A)) (aT (aq S 0))) rfl) (b4 (Fn (cB S 1 (I.c (e7 A)) (aY (aq S 0) (aY (aq S 1) (aT (aq S 2))))) rfl) (dR (cB S 2 (I.c (mG A)) (aY (aq S 0) (aY (aq S 1) (aT (aq S 2))))))))
theorem gR:Bm P w K mg base 3:=match A.f27 with | ⟨_,_,hm,F⟩=>fX F hm (nk F oY) (eZ A) (eY A) rfl rfl
theorem gh:DefOk P w K mg base 6 "are_unlike_by" 2 aN:=match A.f28 with | ⟨_,_,hm,F⟩=>fC F hm (nk F vd) (FA A) (e7 A) (gR A) rfl rfl rfl
theorem qS:DefOk P w K mg base 1 "_law_cell_at" 2 ax:=mk A.f29 A.g ["script", "k"] vd [] ["len"] [0,1] [] [0] fun X S I hp=>
 (b4 (md (fw (sE I.r) (aq S 1) (rl S 0 I.e.n0 (aT (aq S 0)))) (dR (cx (aq S 0) (aq S 1))) me) (dR w_de_int))
theorem xW:DefOk P w K mg base 1 "_law_draw" 3 au:=mk A.f30 A.g ["cell", "k", "bound"] oY ["stir", "left", "j"] ["range"] [0,1,2,3,4,5] [] [0] fun X S I hp=>
 (b4 (md (fw (IE I.r) (aq S 0) (qY w_de_int w_de_int)) (b4 (dU S false 4 (aq S 0)) (b4 (Fd S 5 rfl rfl hp (eL S 0 rfl rfl I.e.n1 (aT (aq S 1)) (eH rfl)) (mq (dU S false 4 (BI (aq S 4) (aq S 2)))) (fun _=>rfl)) (dR (jm (aq S 4) (aq S 2))))) me) (b4 (dU S false 3 (jm (Cb (ny (ny (jm (aq S 0) w_de_int) (Cb w_de_int (aq S 1))) w_de_int) w_de_int) w_de_int)) (b4 (dU S false 3 (jm (ny (ny (Cb (aq S 3) (aq S 3)) (Cb w_de_int (aq S 1))) w_de_int) w_de_int)) (dR (jm (BI (jm (Cb (aq S 3) w_de_int) w_de_int) w_de_int) (aq S 2))))))
theorem jB:DefOk P w K mg base 2 "_law_world" 3 dy:=mk A.f31 A.g ["script", "at", "limit"] oY ["many", "owners", "marks", "steps", "room", "cell", "row", "there", "k"] ["_law_cell_at", "range", "_law_draw", "int"] [0,1,2,3,4,5,6,7,8,9] [3,8] [0,1,2] fun X S I hp=>
 (b4 (dU S false 3 (ny w_de_int (jm (cB S 0 (I.c (qS A)) (aY (aq S 0) (aT (aq S 1)))) (aq S 2)))) (b4 (dU S true 4 (qK .leaf w_da_nil)) (b4 (dU S true 5 (qK .leaf w_da_nil)) (b4 (dU S true 6 (qK .leaf w_da_nil)) (b4 (Fd S 7 rfl rfl hp (eL S 1 rfl rfl I.e.n1 (aT (aq S 3)) (eH rfl)) (b4 (dU S false 8 (cB S 0 (I.c (qS A)) (aY (aq S 0) (aT (ny (ny (aq S 1) w_de_int) (aq S 7)))))) (b4 (Cg S 4 rfl rfl (cB S 2 (I.c (xW A)) (aY (aq S 8) (aY w_de_int (aT w_de_int)))) (eH rfl) rfl rfl rfl rfl) (b4 (Cg S 5 rfl rfl (j8 [8,11] [8] [2] S 11 (eL S 1 rfl rfl I.e.n1 (aT w_de_int) (eH rfl)) (fun Y1 S1 F1=>have I:=F1.i I;Hh (fw (gN I.r) (cB S1 2 (I.c (xW A)) (aY (aq S1 8) (aY (ny w_de_int (aq S1 11)) (aT w_de_int)))) w_de_int)) (fun Y1 S1 F1=>have I:=F1.i I;(cx w_de_str (aq S1 11)))) (eH rfl) rfl rfl rfl rfl) (b4 (eJ (vs':=[3,8,10]) (cs':=[3,8]) (lo':=[]) (gs':=[2,3]) S false 9 .leaf 10 rfl rfl rfl rfl (by kernel_rfl) (by kernel_rfl) (by kernel_rfl) (eL S 1 rfl rfl I.e.n1 (aT (aq S 3)) (eH rfl)) (fun Y2 S2 F2=>have I:=F2.i I;Hh (fw (gN I.r) (cB S2 2 (I.c (xW A)) (aY (aq S2 8) (aY (ny w_de_int (aq S2 10)) (aT (ny w_de_int (rh S2 3 rfl rfl I.e.n9 (aT (u9 (vZ I.r) (aq S2 3) w_de_int)) (aH rfl) rfl)))))) w_de_int)) (fun Y2 S2 F2=>have I:=F2.i I;(aq S2 10)) (fun _=>rfl)) (b4 (md (fw (gN I.r) (aq S 9) (qK .leaf w_da_nil)) (mq (dU S false 9 (qK .leaf (aT (cB S 2 (I.c (xW A)) (aY (aq S 8) (aY (ny w_de_int (aq S 3)) (aT (aq S 3))))))))) me) (mq (Cg S 6 rfl rfl (aq S 9) (eH rfl) rfl rfl rfl rfl))))))) (fun _=>rfl)) (dR (w_de_tup (aY (jn S 4 rfl rfl) (aY (jn S 5 rfl rfl) (aT (jn S 6 rfl rfl)))))))))))
theorem kR:DefOk P w K mg base 1 "_law_twin" 1 dQ:=mk A.f32 A.g ["world"] Ba ["row"] ["list"] [0] [] [0] fun X S I hp=>
 (dR (w_de_tup (aY (Fm S 0 rfl rfl I.e.n7 (cx (aq S 0) w_de_int) (eH rfl)) (aY (j8 [1] [] [0] S 1 (nt (cx (aq S 0) w_de_int)) (fun _ _ _=>jZ) (fun Y1 S1 F1=>have I:=F1.i I;(Fm S1 0 rfl rfl I.e.n7 (aq S1 1) (eH rfl)))) (aT (j8 [1] [] [0] S 1 (nt (cx (aq S 0) w_de_int)) (fun _ _ _=>jZ) (fun Y2 S2 F2=>have I:=F2.i I;(Fm S2 0 rfl rfl I.e.n7 (aq S2 1) (eH rfl)))))))))
theorem e8:DefOk P w K mg base 3 "_law_like_world" 3 bx:=mk A.f33 A.g ["script", "at", "limit"] oY ["world", "cell", "few", "room"] ["_law_world", "_law_cell_at", "len", "range", "_law_draw", "_law_twin"] [0,1,2,3,4,5] [4,5] [0,1,2,3,5] fun X S I hp=>
 (b4 (dU S false 3 (cB S 0 (I.c (jB A)) (aY (aq S 0) (aY (aq S 1) (aT (aq S 2)))))) (b4 (dU S false 4 (cB S 1 (I.c (qS A)) (aY (aq S 0) (aT (ny (ny (aq S 1) w_de_int) (aq S 2)))))) (b4 (md (fw (vZ I.r) (jm (aq S 4) w_de_int) w_de_int) (b4 (dU S false 5 (qK .leaf (aY (qK .leaf (aT w_de_str)) (aY (qK .leaf (aT w_de_str)) (aT (qK .leaf (aT w_de_str))))))) (mq (dU S false 3 (w_de_tup (aY (cx (aq S 3) w_de_int) (aY (j8 [4,5,6] [4,5] [4] S 6 (eL S 3 rfl rfl I.e.n1 (aT (rl S 2 I.e.n0 (aT (cx (aq S 3) w_de_int)))) (eH rfl)) (fun _ _ _=>jZ) (fun Y1 S1 F1=>have I:=F1.i I;(cx (aq S1 5) (cB S1 4 (I.c (xW A)) (aY (aq S1 4) (aY (aq S1 6) (aT w_de_int))))))) (aT (cx (aq S 3) w_de_int)))))))) me) (b4 (md (fw (gN I.r) (jm (aq S 4) w_de_int) w_de_int) (mq (dU S false 3 (w_de_tup (aY (j8 [4,6] [4] [4] S 6 (eL S 3 rfl rfl I.e.n1 (aT (rl S 2 I.e.n0 (aT (cx (aq S 3) w_de_int)))) (eH rfl)) (fun _ _ _=>jZ) (fun Y2 S2 F2=>have I:=F2.i I;(BI (cB S2 4 (I.c (xW A)) (aY (aq S2 4) (aY (ny w_de_int (aq S2 6)) (aT w_de_int)))) w_de_int))) (aY (cx (aq S 3) w_de_int) (aT (cx (aq S 3) w_de_int))))))) me) (dR (cB S 5 (I.c (kR A)) (aT (aq S 3))))))))
theorem jC:DefOkM P w K mg base 2 "_law_pairs" [.leaf,.leaf,.lst .leaf] dz:=JI A.f34 A.g ["script", "many", "told"] oY rfl ["pairs", "k", "draw"] ["_law_cell_at", "range", "_law_draw"] [0,1,2,3,4,5] [] [0,1,2] fun X S I hp=>
 (b4 (dU S true 3 (EV (w_pw_pt (Ff (fw (gN I.r) (jm (cB S 0 (I.c (qS A)) (aY (aq S 0) (aT w_de_int))) w_de_int) w_de_int) (Fo (fw (B4 I.r) (aq S 2) xV)))) (jn S 2 rfl rfl) (qK .leaf w_da_nil))) (b4 (Fd S 4 rfl rfl hp (eL S 1 rfl rfl I.e.n1 (aT (jm (cB S 0 (I.c (qS A)) (aY (aq S 0) (aT w_de_int))) w_de_int)) (eH rfl)) (b4 (dU S false 5 (cB S 2 (I.c (xW A)) (aY (cB S 0 (I.c (qS A)) (aY (aq S 0) (aT w_de_int))) (aY (aq S 4) (aT w_de_int))))) (mq (Cg S 3 rfl rfl (w_de_tup (aY (jm (aq S 5) (aq S 1)) (aT (jm (BI (aq S 5) w_de_int) (aq S 1))))) (eH rfl) rfl rfl rfl rfl))) (fun _=>rfl)) (dR (jn S 3 rfl rfl))))
theorem iq:DefOkM P w K mg base 2 "_law_pairs" [.leaf,.leaf,.leaf] cV:=JI A.f34 A.g ["script", "many", "told"] oY rfl ["pairs", "k", "draw"] ["_law_cell_at", "range", "_law_draw"] [0,1,2,3,4,5] [] [0,1,2] fun X S I hp=>
 (b4 (dU S true 3 (EV (w_pw_pt (Ff (fw (gN I.r) (jm (cB S 0 (I.c (qS A)) (aY (aq S 0) (aT w_de_int))) w_de_int) w_de_int) (Fo (fw (B4 I.r) (aq S 2) xV)))) (jn S 2 rfl rfl) (qK .leaf w_da_nil))) (b4 (Fd S 4 rfl rfl hp (eL S 1 rfl rfl I.e.n1 (aT (jm (cB S 0 (I.c (qS A)) (aY (aq S 0) (aT w_de_int))) w_de_int)) (eH rfl)) (b4 (dU S false 5 (cB S 2 (I.c (xW A)) (aY (cB S 0 (I.c (qS A)) (aY (aq S 0) (aT w_de_int))) (aY (aq S 4) (aT w_de_int))))) (mq (Cg S 3 rfl rfl (w_de_tup (aY (jm (aq S 5) (aq S 1)) (aT (jm (BI (aq S 5) w_de_int) (aq S 1))))) (eH rfl) rfl rfl rfl rfl))) (fun _=>rfl)) (dR (jn S 3 rfl rfl))))
theorem o_law {fa:Addr} (hfa:mg "law"=some (.ref fa)):∃fd:FuncData,(∀(s:Shared) (v:Value),BindsTo s fd ⟨[v],[]⟩ [("script",v)])/\∀base:Heap,K.In base->base.Ns mainGlobals mg->bT P w K mg base eG 8 fa fd ["script"] (pq K 1 tG):=J9 A.f35 A.g "script" Ba hfa ["world", "many", "one", "other", "pairs", "rows", "some", "left", "right"] ["_law_like_world", "len", "_law_cell_at", "alike", "unlike", "list", "are_alike_by", "are_unlike_by", "_law_pairs"] [0,1,2,3,4,5,6,7,8,9] [] [0,1,2,3,4,5,6,7,8] fun base X S I hp=>
 (b4 (dU S false 1 (cB S 0 (I.c (e8 A)) (aY (aq S 0) (aY w_de_int (aT w_de_int))))) (b4 (dU S false 2 (rl S 1 I.e.n0 (aT (cx (aq S 1) w_de_int)))) (b4 (dU S false 3 (jm (cB S 2 (I.c (qS A)) (aY (aq S 0) (aT w_de_int))) (aq S 2))) (b4 (dU S false 4 (jm (BI (cB S 2 (I.c (qS A)) (aY (aq S 0) (aT w_de_int))) w_de_int) (aq S 2))) (b4 (dU S true 5 (cB S 3 (I.c (ou A)) (aY (aq S 1) (aY (aq S 3) (aY (aq S 4) (aT ml)))))) (b4 (dU S true 6 (cB S 4 (I.c (kM A)) (aY (aq S 1) (aY (aq S 3) (aT (aq S 4)))))) (b4 (md (fw (gN I.r) (u9 (zO I.r) (aq S 5) xV) (u9 (zO I.r) (aq S 6) xV)) (dR ml) me) (b4 (md (w_pw_pt (Ff (fw (B4 I.r) (aq S 5) xV) (Fo (fw (Gu I.r) (cB S 6 (I.c (dO A)) (aY (aq S 1) (aY (gD S 5 rfl rfl I.e.n7 5 rfl rfl (eH rfl)) (aT ml)))) ml)))) (dR ml) me) (b4 (md (w_pw_pt (Ff (fw (B4 I.r) (aq S 6) xV) (Fo (fw (Gu I.r) (cB S 7 (I.c (gh A)) (aY (aq S 1) (aT (gD S 5 rfl rfl I.e.n7 6 rfl rfl (eH rfl))))) ml)))) (dR ml) me) (b4 (rd (iJ S false 7 8 rfl rfl rfl rfl (I.m (jC A)) (aY (aq S 0) (aY (aq S 2) (aT (jn S 5 rfl rfl)))) (aH rfl) rfl rfl) (iJ S false 7 8 rfl rfl rfl rfl (I.m (iq A)) (aY (aq S 0) (aY (aq S 2) (aT (jn S 5 rfl rfl)))) (aH rfl) rfl rfl)) (b4 (md (fw (Gu I.r) (cB S 6 (I.c (dO A)) (aY (aq S 1) (aY (Fm S 5 rfl rfl I.e.n7 (aq S 7) (eH rfl)) (aT ml)))) ml) (dR ml) me) (b4 (pf S 8 9 rfl rfl rfl rfl hp (nt (aq S 7)) (mq (md (w_pw_pt (w_dw_or (fw (B4 I.r) (cB S 4 (I.c (kM A)) (aY (aq S 1) (aY (aq S 8) (aT (aq S 9))))) xV) (w_dw_or1 (fw (zO I.r) (cB S 3 (I.c (ou A)) (aY (aq S 1) (aY (aq S 8) (aY (aq S 9) (aT ml))))) xV)))) (dR ml) me)) (fun _=>rfl)) (dR ml)))))))))))))
end
end KC.Ap.M
open PySem PySem.W PyProof.Rows
def PySem.W.Fast.tw13483222263479492513:=0
def PySem.W.Fast.tw8753468856200860612:=0
def PySem.W.Fast.tw16579775774651833126:=0
def PySem.W.Fast.tw798531877789336968:=0
def PySem.W.Fast.tw7921304858360423913:=0
def PySem.W.Fast.tw4200767930396230412:=0
def PySem.W.Fast.tw13880865214172057647:=0
def PySem.W.Fast.tw10249829837483162459:=0
def PySem.W.Fast.tw10502324363655769692:=0
def PySem.W.Fast.tw5338789191814470236:=0
def PySem.W.Fast.tw6715009627250211421:=0
set_option maxRecDepth 100000 in
set_option maxHeartbeats 0 in
theorem PySem.Challenge.cw_foreseehall_k45_whole_like_or_unlike_holds : PySem.Challenge.rw_foreseehall_k45_whole_like_or_unlike.Holds := by
 w_on;o_law;k_head;(case hw=>w_witness2)
 k_fill
 refine T.walkG (j:=8) (l:=PySem.Challenge.rw_foreseehall_k45_whole_like_or_unlike) KC.Ap.M.law_true ⟨rfl,by decide,by decide,rfl⟩ rfl rfl (fun w h Y=>PySem.W.kIn_of Y) ?F
 case F=>
  intro w mg fa h KX G hmg;refine' KC.Ap.M.o_law (.mk (.mk (T.gn KX G ?z0) (T.gn KX G ?z1) (T.gn KX G ?z2) (T.gn KX G ?z3) (T.gn KX G ?z4) (T.gn KX G ?z5) (T.gn KX G ?z6) (T.gn KX G ?z7) (T.gn KX G ?z8) (T.gn KX G ?z9) (T.gt KX G ?e0 ?q0 ?v0) (T.gi KX G ?e1) (T.gt KX G ?e2 ?q2 ?v2)) (T.ft KX G ?a0 ?l0 ?c0 ?k0) (T.ft KX G ?a1 ?l1 ?c1 ?k1) (T.ft KX G ?a2 ?l2 ?c2 ?k2) (T.ft KX G ?a3 ?l3 ?c3 ?k3) (T.ft KX G ?a4 ?l4 ?c4 ?k4) (T.ft KX G ?a5 ?l5 ?c5 ?k5) (T.ft KX G ?a6 ?l6 ?c6 ?k6) (T.ft KX G ?a7 ?l7 ?c7 ?k7) (T.ft KX G ?a8 ?l8 ?c8 ?k8) (T.ft KX G ?a9 ?l9 ?c9 ?k9) (T.ft KX G ?a10 ?l10 ?c10 ?k10) (T.ft KX G ?a11 ?l11 ?c11 ?k11) (T.ft KX G ?a12 ?l12 ?c12 ?k12) (T.ft2 KX G ?a13 ?l13 ?c13 ?k13) (T.ft KX G ?a14 ?l14 ?c14 ?k14) (T.ft KX G ?a15 ?l15 ?c15 ?k15) (T.ft KX G ?a16 ?l16 ?c16 ?k16) (T.ft KX G ?a17 ?l17 ?c17 ?k17) (T.ft KX G ?a18 ?l18 ?c18 ?k18) (T.ft KX G ?a19 ?l19 ?c19 ?k19) (T.ft KX G ?a20 ?l20 ?c20 ?k20) (T.ft KX G ?a21 ?l21 ?c21 ?k21) (T.ft KX G ?a22 ?l22 ?c22 ?k22) (T.ft2 KX G ?a23 ?l23 ?c23 ?k23) (T.ft KX G ?a24 ?l24 ?c24 ?k24) (T.ft KX G ?a25 ?l25 ?c25 ?k25) (T.ft KX G ?a26 ?l26 ?c26 ?k26) (T.ft KX G ?a27 ?l27 ?c27 ?k27) (T.ft KX G ?a28 ?l28 ?c28 ?k28) (T.ft KX G ?a29 ?l29 ?c29 ?k29) (T.ft KX G ?a30 ?l30 ?c30 ?k30) (T.ft KX G ?a31 ?l31 ?c31 ?k31) (T.ft KX G ?a32 ?l32 ?c32 ?k32) (T.ft KX G ?a33 ?l33 ?c33 ?k33) (T.ft KX G ?a34 ?l34 ?c34 ?k34) (T.ft KX G ?a35 ?l35 ?c35 ?k35)) hmg
  case a0|l0|c0|k0|a1|l1|c1|k1|a2|l2|c2|k2|a3|l3|c3|k3|a4|l4|c4|k4|a5|l5|c5|k5|a6|l6|c6|k6|a7|l7|c7|k7|a8|l8|c8|k8|a9|l9|c9|k9|a10|l10|c10|k10|a11|l11|c11|k11|a12|l12|c12|k12|a13|l13|c13|k13|a14|l14|c14|k14|a15|l15|c15|k15|a16|l16|c16|k16|a17|l17|c17|k17|a18|l18|c18|k18|a19|l19|c19|k19|a20|l20|c20|k20|a21|l21|c21|k21|a22|l22|c22|k22|a23|l23|c23|k23|a24|l24|c24|k24|a25|l25|c25|k25|a26|l26|c26|k26|a27|l27|c27|k27|a28|l28|c28|k28|a29|l29|c29|k29|a30|l30|c30|k30|a31|l31|c31|k31|a32|l32|c32|k32|a33|l33|c33|k33|a34|l34|c34|k34|a35|l35|c35|k35|z0|z1|z2|z3|z4|z5|z6|z7|z8|z9|e0|q0=>k_is
  case v0=>kernel_rfl
  case e1|e2|q2=>k_is
  case v2=>kernel_rfl
