import PyProof.Rows.All
import Wide.All
import OpenK.AllK
import Wide.FinOn
import Lean
import PyProof.EqAt
import PyProof.EqKinds
import PyProof.TupleCall
import PySem.Challenge.RW_mindchange_k62_one_mind_asked
set_option Elab.async false
set_option linter.all false
set_option maxRecDepth 100000
set_option maxHeartbeats 8000000
set_option Elab.async false
set_option linter.all false
set_option maxRecDepth 100000
abbrev qdt:=@decide_eq_true
abbrev qod:=@of_decide_eq_true
abbrev qdf:=@decide_eq_false
abbrev qnZ:=@if_neg
abbrev qp:=@if_pos
abbrev qbf:=@Bool.false_ne_true
abbrev qms:=@List.mem_cons_self
abbrev qmm:=@List.mem_cons_of_mem
abbrev qnt:=@Nat.le_trans
abbrev qmg:=@List.mem_of_getElem?
abbrev qal:=@List.mem_append_left
abbrev qar:=@List.mem_append_right
abbrev qsi:=@Option.some.inj
abbrev qen:=@Int.emod_nonneg
abbrev qel:=@Int.emod_lt_of_pos
abbrev qnb:=@Nat.le_of_ble_eq_true
abbrev qnr:=@Nat.le_refl
abbrev qnz:=@Nat.zero_le
abbrev qlm:=@List.length_map
abbrev qgm:=@List.getElem?_map
abbrev qta:=@List.take_add_one
namespace L2
open PySem PySem.Spec PyProof.Rows
abbrev Key:=Sum Int Str
def mR:Key->Value->Bool
 | .inl k,v=>Value.isInt k v
 | .inr x,v=>Value.isStrOf x v
def Oo(w:World):Key->Int
 | .inl k=>hashInt k
 | .inr x=>hashStr w x
theorem cO:∀{k:Key}{v:Value},mR k v=true->(∃ i t,k=Sum.inl i/\v=Value.int i t)\/(∃ x t,k=Sum.inr x/\v=Value.str x t)
 | .inl i,v,h=>by
  obtain⟨t,e⟩:=Value.isInt_shape (k:=i) (v:=v) h;exact .inl ⟨i,t,rfl,e⟩
 | .inr x,v,h=>by
  obtain⟨t,e⟩:=Value.isStrOf_shape (x:=x) (v:=v) h;exact .inr ⟨x,t,rfl,e⟩
theorem Ce(i:Int)(t:Tok):mR (.inl i) (.int i t)=true:=by simp[mR,Value.isInt]
theorem Cg(x:Str)(t:Tok):mR (.inr x) (.str x t)=true:=by simp[mR,Value.isStrOf]
theorem K8(a b:Int):decide ((Sum.inl a:Key)=Sum.inl b)=(a == b):=by
 by_cases e:a=b
 . subst e;simp
 . have h:¬ (Sum.inl a:Key)=Sum.inl b:=fun q=>e (Sum.inl.inj q)
   rw[qdf h];exact(beq_eq_false_iff_ne.mpr e).symm
theorem K9(a b:Str):decide ((Sum.inr a:Key)=Sum.inr b)=decide (a=b):=by
 by_cases e:a=b
 . subst e;simp
 . have h:¬ (Sum.inr a:Key)=Sum.inr b:=fun q=>e (Sum.inr.inj q)
   rw[qdf h,qdf e]
theorem La(a:Int)(b:Str):decide ((Sum.inl a:Key)=Sum.inr b)=false:=qdf (fun q=>nomatch q)
theorem Lb(a:Str)(b:Int):decide ((Sum.inr a:Key)=Sum.inl b)=false:=qdf (fun q=>nomatch q)
def bM(prog:Program)(w:World):PySem.KeyKind prog w Key where
 is:=mR
 hash:=Oo w
 inj := fun v a b ha hb=>by
  rcases cO ha with⟨i,t,rfl,rfl⟩|⟨x,t,rfl,rfl⟩
  . rcases cO hb with⟨j,u,rfl,e⟩|⟨y,u,rfl,e⟩
    . injection e with e1 _;rw[e1]
    . exact nomatch e
  . rcases cO hb with⟨j,u,rfl,e⟩|⟨y,u,rfl,e⟩
    . exact nomatch e
    . injection e with e1 _;rw[e1]
 byValue:=fun k v h=>by
  rcases cO h with⟨i,t,rfl,rfl⟩|⟨x,t,rfl,rfl⟩ <;> rfl
 pyHash:=fun hv h=>by
  rcases cO hv with⟨i,t,rfl,rfl⟩|⟨x,t,rfl,rfl⟩
  . exact wpAny_pyHash_int h
  . exact wpAny_pyHash_str h
 eqBool:=fun hu hv h=>by
  rcases cO hu with⟨i,t,rfl,rfl⟩|⟨x,t,rfl,rfl⟩
  . rcases cO hv with⟨j,u,rfl,rfl⟩|⟨y,u,rfl,rfl⟩
    . rw[K8]at h;exact wpAny_eqBool_int h
    . rw[La]at h;exact SeqAt.EqAt.int_str i t y u _ _ _ _ h
  . rcases cO hv with⟨j,u,rfl,rfl⟩|⟨y,u,rfl,rfl⟩
    . rw[Lb]at h;exact SeqAt.EqAt.str_int x t j u _ _ _ _ h
    . rw[K9]at h;exact wpAny_eqBool_str h
 «strs»:=fun k x t v h=>by
  rcases cO h with⟨i,u,rfl,e⟩|⟨y,u,rfl,e⟩
  . exact nomatch e
  . injection e with e1 _
    subst e1;cases v <;> rfl
theorem p8(prog:Program)(w:World)(i:Int)(t:Tok):(bM prog w).is (.inl i) (.int i t)=true:=Ce i t
theorem qb(prog:Program)(w:World)(x:Str)(t:Tok):(bM prog w).is (.inr x) (.str x t)=true:=Cg x t
end L2
namespace L2
open PySem PySem.Spec PyProof.Rows
inductive V where
 |non|bl (b:Bool)|int (i:Int)|str (x:Str)|byt (b:Array UInt8)|flt (b:UInt64)|ref (a:Addr)|ty (n:String)
 deriving DecidableEq
def RelV:V->Value->Prop
 | .non,u=>u=Value.none
 | .bl b,u=>u=Value.bool b
 | .int i,u=>∃ t,u=Value.int i t
 | .str x,u=>∃ t,u=Value.str x t
 | .byt b,u=>∃ t,u=Value.bytes b t
 | .flt b,u=>∃ t,u=Value.float b t
 | .ref a,u=>u=Value.ref a
 | .ty n,u=>u=Value.type n
abbrev Vals:List V->List Value->Prop:=Paired RelV
theorem Vals.length{xs:List V}{us:List Value}(r:Vals xs us):xs.length=us.length:=Paired.length r
theorem Vals.get:∀{xs:List V}{us:List Value}{i:Nat}{x:V},Vals xs us->xs[i]? = some x->∃ u,us[i]? = some u/\RelV x u
 |_,_,_,_,.nil,e=>by simp at e
 |_,_,0,_,.cons r _,e=>by simp at e;subst e;exact⟨_,rfl,r⟩
 | _,_,i+1,x,.cons _ t,e=>by
  obtain⟨u,h1,h2⟩:=Vals.get (i:=i) (x:=x) t (by simpa using e);exact⟨u,by simpa using h1,h2⟩
theorem Vals.append:∀{xs ys:List V}{us ws:List Value},Vals xs us->Vals ys ws->Vals (xs++ys) (us++ws)
 |_,_,_,_,.nil,s=>s
 |_,_,_,_,.cons r t,s=>.cons r (Vals.append t s)
theorem Vals.take:∀{xs:List V}{us:List Value}(n:Nat),Vals xs us->Vals (xs.take n) (us.take n)
 |_,_,0,_=>.nil
 |_,_,_+1,.nil=>.nil
 |_,_,n+1,.cons r t=>.cons r (Vals.take n t)
theorem Vals.drop:∀{xs:List V}{us:List Value}(n:Nat),Vals xs us->Vals (xs.drop n) (us.drop n)
 |_,_,0,r=>r
 |_,_,_+1,.nil=>.nil
 |_,_,n+1,.cons _ t=>Vals.drop n t
def RelO:Option V->Option Value->Prop
 |some v,some u=>RelV v u
 |none,none=>True
 |_,_=>False
def KV{κ:Type}:List (κ×V)->List (κ×Value)->Prop:=Paired fun(p:κ×V)(q:κ×Value)=>p.1=q.1/\RelV p.2 q.2
def kV:Key->V
 | .inl i=>.int i
 | .inr x=>.str x
inductive HO where
  |lst (xs:List V)
  |tup (xs:List V)
  |dK (kvs:List (Key×V))|dT (kvs:List (List Key×V))
  |set (S:Int->Bool) (n:Nat)
  |ins (C dx:Addr) (fs:List (Str×V))
  |own (x:Addr)
  |xd (fs:List (Str×V))
  |met (f x:Addr)
  |rng (lo hi:Int)
  |frz (o:Obj) (u:HO)
  |tbl (ps:Array Value)
  |ext (φ:Heap->Prop)
abbrev Hp:=Addr->Option HO
def upd(H:Hp)(a:Addr)(o:HO):Hp:=fun b=>if b=a then some o else H b
theorem au{H:Hp}{a:Addr}{o:HO}:upd H a o a=some o:=by unfold upd;rw[qp rfl]
theorem aF{H:Hp}{a b:Addr}{o:HO}(h:b≠a):upd H a o b=H b:=by unfold upd;rw[qnZ h]
theorem pN{H:Hp}{a:Addr}{o u:HO}:upd (upd H a o) a u=upd H a u:=by
 funext b;unfold upd;split <;> rfl
theorem bH{H:Hp}{a b:Addr}{o u:HO}(h:H a=some o)(h':H b=some u)(d:o≠u):a≠b:=by
 intro e;subst e;rw[h]at h';exact d (qsi h')
theorem aM{H:Hp}{a b:Addr}{o:HO}(h:H a=some o)(h':H b=none):a≠b:=by
 intro e;subst e;rw[h]at h';cases h'
def IsTupP(h:Heap)(a:Addr)(its:Array Value):Prop:=∃ o,h.get? a=some o/\o.cls = .type "tuple"/\∃ n,(o.data,o.dict)=(Data.seq its n,none)
theorem IsTupP.tup{h:Heap}{a:Addr}{its:Array Value}(x:IsTupP h a its):IsTup h a its:=let ⟨o,e,c,n,d⟩:=x;⟨o,e,c,n,congrArg Prod.fst d⟩
theorem IsTupP.new(h:Heap)(its:Array Value):IsTupP (h.push { cls:=.type "tuple",data:=.seq its }) h.objs.size its:=⟨_,Heap.get?_push_size _ rfl,rfl,_,rfl⟩
section
variable(P:Program)(w:World)
def ObjOk(H:Hp)(h:Heap)(a:Addr):HO->Prop
 | .lst xs=>xs.length<=sizeLine/\∃(its:List Value) (n:Nat),Vals xs its/\h.get? a=some { cls:=.type "list",data:=.seq its.toArray n }
 | .tup xs=>xs.length<=sizeLine/\∃ its:List Value,Vals xs its/\IsTupP h a its.toArray
 | .dK kvs=>kvs.length<=sizeLine/\(a == sysModules)=false/\∃ vs,KV kvs vs/\h.DictOf (bM P w) a vs
 | .dT kvs=>kvs.length<=sizeLine/\(a == sysModules)=false/\∃ xs:List (List Key×Addr×Value),
   Paired (fun(p:List Key×V)(q:List Key×Addr×Value)=>p.1=q.1/\H q.2.1=some (.tup (p.1.map kV))/\RelV p.2 q.2.2) kvs xs /\
   ∃ o es ep,h.get? a=some o/\o.ExactDict/\o.data = .dict es ep/\es.toList=xs.map (entryOfKey (tupleKind (bM P w)))/\(xs.map (·.1)).Nodup
 | .set S n=>h.SetOf (intKind P w) a S n
 | .ins C dx fs=>H dx=some (.own a)/\fs.length<=1000/\dx≠a/\h.get? a=some (W.instObj C dx) /\
   ∃ mA,h.Ns1 dx mA/\(∀ f,RelO (fs.lookup f) (mA f))/\PySem.Within mA (fs.map (·.1))
 | .own _=>∃ o,h.get? a=some o
 | .xd fs=>∃ mA,h.Ns1 a mA/\∀ f,RelO (fs.lookup f) (mA f)
 | .rng lo hi=>∃ t u v,h.get? a=some { cls:=.type "range",data:=.fields #[.int lo t,.int hi u,.int 1 v] }
 | .frz o u=>h.get? a=some o/\ObjOk H h a u
 | .tbl ps=>h.get? a=some { cls:=.none,data:=.fields ps }
 | .met f x=>h.get? a=some (W.methodObj (.ref f) (.ref x))
 | .ext φ=>φ h/\(∃ o,h.get? a=some o)/\∀ h1 h2:Heap,φ h1->(∀ o,h1.get? a=some o->h2.get? a=some o)->φ h2
def HOk(H:Hp)(h:Heap):Prop:=∀ a o,H a=some o->ObjOk P w H h a o
end
section
variable{P:Program}{w:World}{H H':Hp}{h h':Heap}{a:Addr}{o:HO}
theorem ObjOk.lt(x:ObjOk P w H h a o):a<h.objs.size:=by
 cases o with
 |lst xs=>obtain⟨_,_,_,_,e⟩:=x;exact Heap.lt_size e
 |tup xs=>obtain⟨_,_,_,p⟩:=x;exact p.tup.lt
 |dK kvs=>obtain⟨_,_,_,_,o,_,_,e,_⟩:=x;exact Heap.lt_size e
 |dT kvs=>obtain⟨_,_,_,_,o,_,_,e,_⟩:=x;exact Heap.lt_size e
 |set S n=>obtain⟨o,_,_,_,e,_⟩:=x;exact Heap.lt_size e
 |ins C dx fs=>obtain⟨_,_,_,e,_⟩:=x;exact Heap.lt_size e
 |own y=>obtain⟨_,e⟩:=x;exact Heap.lt_size e
 |xd fs=>obtain⟨_,⟨_,_,_,e,_⟩,_⟩:=x;exact Heap.lt_size e
 |rng lo hi=>obtain⟨_,_,_,e⟩:=x;exact Heap.lt_size e
 |frz ob u=>obtain⟨e,_⟩:=x;exact Heap.lt_size e
 |tbl ps=>exact Heap.lt_size (show h.get? a=some _ from x)
 |met f y=>exact Heap.lt_size (show h.get? a=some _ from x)
 |ext φ=>obtain⟨_,⟨_,e⟩,_⟩:=x;exact Heap.lt_size e
theorem Paired.mapP{α β:Type}{F G:α->β->Prop}:∀{l₁:List α}{l₂:List β},Paired F l₁ l₂->(∀ a b,F a b->G a b)->Paired G l₁ l₂
 |_,_,.nil,_=>.nil
 |_,_,.cons r t,f=>.cons (f _ _ r) (Paired.mapP t f)
theorem ObjOk.stay(x:ObjOk P w H h a o)(k:∀ b u,(b=a\/H b=some (.own a))->h.get? b=some u->h'.get? b=some u)
  (ho:∀ b,H b=some (.own a)->H' b=some (.own a)) (ht:∀ b xs,H b=some (.tup xs)->H' b=some (.tup xs)):ObjOk P w H' h' a o:=by
 induction o with
 |lst xs=>obtain⟨z,its,n,r,e⟩:=x;exact⟨z,its,n,r,k _ _ (.inl rfl) e⟩
 |tup xs=>obtain⟨z,its,r,ob,e,c⟩:=x;exact⟨z,its,r,ob,k _ _ (.inl rfl) e,c⟩
 |dK kvs=>obtain⟨z,y,vs,r,ob,es,ep,e,c⟩:=x;exact⟨z,y,vs,r,ob,es,ep,k _ _ (.inl rfl) e,c⟩
 | dT kvs =>
  obtain⟨z,y,xs,r,ob,es,ep,e,c⟩:=x;exact⟨z,y,xs,Paired.mapP r fun p q z=>⟨z.1,ht _ _ z.2.1,z.2.2⟩,ob,es,ep,k _ _ (.inl rfl) e,c⟩
 |set S n=>obtain⟨ob,es,ep,t,e,c⟩:=x;exact⟨ob,es,ep,t,k _ _ (.inl rfl) e,c⟩
 | ins C dx fs =>
  obtain⟨d,z,ne,e,mA,⟨od,es,ep,e2,c⟩,r⟩:=x;exact⟨ho _ d,z,ne,k _ _ (.inl rfl) e,mA,⟨od,es,ep,k _ _ (.inr d) e2,c⟩,r⟩
 |own y=>obtain⟨ob,e⟩:=x;exact⟨ob,k _ _ (.inl rfl) e⟩
 |xd fs=>obtain⟨mA,⟨od,es,ep,e,c⟩,r⟩:=x;exact⟨mA,⟨od,es,ep,k _ _ (.inl rfl) e,c⟩,r⟩
 |rng lo hi=>obtain⟨t,u,v,e⟩:=x;exact⟨t,u,v,k _ _ (.inl rfl) e⟩
 |frz ob u ih=>obtain⟨e,q⟩:=x;exact⟨k _ _ (.inl rfl) e,ih q⟩
 | tbl ps =>
  have e:h.get? a=some { cls:=.none,data:=.fields ps }:=x;show h'.get? a=some { cls:=.none,data:=.fields ps };exact k a _ (.inl rfl) e
 | met f y =>
  have e:h.get? a=some (W.methodObj (.ref f) (.ref y)):=x;show h'.get? a=some (W.methodObj (.ref f) (.ref y));exact k a _ (.inl rfl) e
 |ext φ=>obtain⟨p,⟨o,e⟩,st⟩:=x;exact⟨st _ _ p fun o q=>k _ _ (.inl rfl) q,⟨o,k _ _ (.inl rfl) e⟩,st⟩
theorem HOk.lt(x:HOk P w H h)(e:H a=some o):a<h.objs.size:=(x a o e).lt
theorem HOk.fresh(x:HOk P w H h)(e:h.objs.size<=a):H a=none:=by
 cases q:H a with
 |none=>rfl
 |some u=>exact absurd (Nat.lt_of_lt_of_le (x.lt q) e) (Nat.lt_irrefl _)
theorem HOk.kept(x:HOk P w H h)(k:∀ b u,h.get? b=some u->h'.get? b=some u):HOk P w H h':=fun a o e =>
 (x a o e).stay (fun b u _ q=>k b u q) (fun _ q=>q) fun _ _ q=>q
theorem HOk.laid(x:HOk P w H h)(k:∀ b u,h.get? b=some u->h'.get? b=some u)(hp:h.objs.size<=a)(new:ObjOk P w (upd H a o) h' a o):HOk P w (upd H a o) h':=fun b u e=>by
 have hn:=x.fresh hp
 by_cases hb:b=a
 . subst hb;rw[au]at e;cases e;exact new
 . rw[aF hb]at e
   exact(x b u e).stay (fun c v _ q=>k c v q) (fun c q=>by rw[aF (aM q hn)];exact q) fun c xs q=>by rw[aF (aM q hn)];exact q
end
def Rd(H:Hp)(a:Addr)(u:HO):Prop:=H a=some u\/∃ o,H a=some (.frz o u)
theorem Rd.ok{P:Program}{w:World}{H:Hp}{h:Heap}{a:Addr}{u:HO}(r:Rd H a u)(x:HOk P w H h):ObjOk P w H h a u:=by
 rcases r with r|⟨o,r⟩
 . exact x a u r
 . obtain⟨_,q⟩:=x a _ r
   exact q
def Mut:Option HO->Prop
 |some (.lst _)=>True
 |some (.dK _)=>True
 |some (.dT _)=>True
 |some (.set _ _)=>True
 |some (.ins _ _ _)=>True
 |some (.ext _)=>True
 |_=>False
section
variable{P:Program}{w:World}{H:Hp}{h h':Heap}{x e:Addr}{o':HO}
theorem HOk.write(ok:HOk P w H h)(mu:Mut (H x))(he:e=x\/H e=some (.own x))(k:∀ b u,b≠e->h.get? b=some u->h'.get? b=some u)(heo:∃ u,h'.get? e=some u)
  (new:ObjOk P w (upd H x o') h' x o'):HOk P w (upd H x o') h':=fun b u q=>by
 have nown:∀ c y,H c=some (.own y)->c≠x:=fun c y r z=>by subst z;rw[r]at mu;exact mu
 have ntup:∀ c xs,H c=some (.tup xs)->c≠x:=fun c xs r z=>by subst z;rw[r]at mu;exact mu
 by_cases hb:b=x
 . subst hb;rw[au]at q;cases q;exact new
 . rw [aF hb]at q
   by_cases hbe:b=e
   . have q':H b=some (.own x):=by
      rcases he with z|z
      . exact absurd (hbe.trans z) hb
      . rw[hbe];exact z
     rw[q]at q';cases q';obtain⟨v,hv⟩:=heo;exact⟨v,by rw[hbe];exact hv⟩
   . refine(ok b u q).stay (fun c v hc r=>k c v ?_ r) (fun c r=>by rw[aF (nown c b r)];exact r) fun c xs r=>by rw[aF (ntup c xs r)];exact r
     rcases hc with rfl|hc
     . exact hbe
     . rintro rfl
       rcases he with z|z
       . exact nown c b hc z
       . rw[hc]at z;cases z;exact hb rfl
end
structure Un(fs ex:List Addr)(H H':Hp)(h h':Heap):Prop where
 keep:∀ b o,h.get? b=some o->H b=none->b∉fs->b∉ex->h'.get? b=some o
 slot:∀ b o,h.get? b=some o->H b=none->b∈fs->b∉ex->∃ sl,h'.get? b=some { o with slots:=sl }
 free:∀ b o,h.get? b=some o->H b=none->b∉ex->H' b=none
 there:∀ b o,h.get? b=some o->b∉ex->∃ o',h'.get? b=some o'
 tups:∀ b xs,H b=some (.tup xs)->H' b=some (.tup xs)
 frzs:∀ b o u,H b=some (.frz o u)->H' b=some (.frz o u)
 tbls:∀ b ps,H b=some (.tbl ps)->∃ more,H' b=some (.tbl (ps++more))
section
variable{fs fs' ex ex':List Addr}{H H1 H2:Hp}{h h1 h2 h':Heap}{a x e:Addr}{o:HO}
theorem Un.any(u:Un fs ex H H1 h h1){b:Addr}{ob:Obj}(q:h.get? b=some ob)(n:H b=none)(hx:b∉ex):∃ sl,h1.get? b=some { ob with slots:=sl }:=by
 by_cases hb:b∈fs
 . exact u.slot b ob q n hb hx
 . exact⟨ob.slots,u.keep b ob q n hb hx⟩
theorem Un.kept(k:∀ b u,h.get? b=some u->h'.get? b=some u):Un fs ex H H h h' :=
 ⟨fun b ob q _ _ _=>k b ob q,fun b ob q _ _ _=>⟨ob.slots,k b ob q⟩,fun _ _ _ n _=>n,fun b ob q _=>⟨ob,k b ob q⟩,fun _ _ q=>q,fun _ _ _ q=>q,fun _ ps q=>⟨#[],by rw[q];simp⟩⟩
theorem Un.refl:Un fs ex H H h h:=Un.kept fun _ _ q=>q
theorem Un.laid(k:∀ b u,h.get? b=some u->h'.get? b=some u)(hp:h.objs.size<=a)(hn:H a=none):Un fs ex H (upd H a o) h h' where
 keep:=fun b u q _ _ _=>k b u q
 slot:=fun b u q _ _ _=>⟨u.slots,k b u q⟩
 free:=fun b u q n _=>by rw[aF (Nat.ne_of_lt (Nat.lt_of_lt_of_le (Heap.lt_size q) hp))];exact n
 there:=fun b u q _=>⟨u,k b u q⟩
 tups:=fun b xs q=>by rw[aF (aM q hn)];exact q
 frzs:=fun b u xs q=>by rw[aF (aM q hn)];exact q
 tbls:=fun b ps q=>⟨#[],by rw[aF (aM q hn),q];simp⟩
theorem Un.write(mu:Mut (H x))(he:e=x\/H e=some (.own x))(k:∀ b u,b≠e->h.get? b=some u->h'.get? b=some u)(heo:∃ u,h'.get? e=some u):Un fs ex H (upd H x o) h h':=by
 have hx:∀ b,H b=none->b≠x:=fun b n z=>by subst z;rw[n]at mu;exact mu
 have hb:∀ b,H b=none->b≠e:=fun b n z=>by
  subst z;rcases he with r|r
  . exact hx b n r
  . rw[n]at r;cases r
 have hm:∀ b u,H b=some u->¬ Mut (some u)->b≠x:=fun b u q nm z=>by subst z;rw[q]at mu;exact nm mu
 refine⟨fun b u q n _ _=>k b u (hb b n) q,fun b u q n _ _=>⟨u.slots,k b u (hb b n) q⟩,fun b u q n _=>by rw[aF (hx b n)];exact n,fun b u q _=>?_,
  fun b xs q=>by rw[aF (hm b _ q fun z=>z)];exact q,fun b u xs q=>by rw[aF (hm b _ q fun z=>z)];exact q,fun b ps q=>⟨#[],by rw[aF (hm b _ q fun z=>z),q];simp⟩⟩
 by_cases hbe:b=e
 . subst hbe;exact heo
 . exact⟨u,k b u hbe q⟩
end
def trk(h:Heap)(H:Hp):List Addr:=(List.range h.objs.size).filter fun a=>(H a).isSome
def mU(h:Heap)(H:Hp):Heap:=W.hideAll h (trk h H)
theorem Ci(h:Heap)(H:Hp):(mU h H).objs.size=h.objs.size:=W.hideAll_size _ _
theorem FP{h:Heap}{H:Hp}{b:Addr}{o:Obj}(e:h.get? b=some o)(n:H b=none):(mU h H).get? b=some o :=
 W.hideAll_get _ e fun hm=>by
  have q:(H b).isSome=true:=(List.mem_filter.mp hm).2;rw[n]at q;simp at q
theorem JK{h:Heap}{H:Hp}{b:Addr}{o:Obj}(e:(mU h H).get? b=some o):h.get? b=some o/\H b=none:=by
 have e':h.get? b=some o:=W.of_hideAll (trk h H) e;refine⟨e',?_⟩;cases q:H b with
 |none=>rfl
 | some x =>
  have hm:b∈trk h H:=List.mem_filter.mpr ⟨List.mem_range.mpr (Heap.lt_size e'),by simp[q]⟩;have z:(mU h H).get? b=none:=W.hideAll_none (trk h H) hm;rw[z]at e;cases e
end L2
namespace L2
open PySem PySem.Spec PyProof.Rows
structure Mod(K:W.Frag)(mg:Str->Option Value)(base:Heap):Prop where
 kin:K.In base
 glob:base.Ns mainGlobals mg
 blt:∃ mb,base.Ns builtinsNs mb/\∀ x:Str,x≠"__name__"->mb x=bootBuiltins x
 nolimit:base.NoLimit
structure Cx where
 prog:Program
 w:World
 K:W.Frag
 mg:Str->Option Value
 base:Heap
 A:Around
 N:List Str
 s₀:Shared
 H₀:Hp
 env:Env
 outer:List Env
 stack:List Env
 ex:List Addr
 fn:Str->Bool
 calm:Bool
 pn:List (Addr×Obj)
 xe:Value->Shared->Prop
def frs(l:List Env):List Addr:=l.filterMap (·.frame)
abbrev Cx.fs(X:Cx):List Addr:=frs X.outer
def Vis(sc:Scope)(x:Str):Prop:=sc.names.lookup x=some .local \/ sc.names.lookup x=some .cell \/ sc.names.lookup x=some .free
def Loc(sc:Scope)(x:Str):Prop:=sc.names.lookup x=some .local \/ sc.names.lookup x=some .cell
def Look(env:Env)(h:Heap)(m:Str->Option Value)(x:Str)(u:Value):Prop :=
 (env.kindOf x=some .local /\ m x=some u)\/((env.kindOf x=some .cell \/ env.kindOf x=some .free)/\∃ c,env.cells.lookup x=some c/\h.IsCell c (some u))
structure Cx.Ok(X:Cx):Prop where
 mod:Mod X.K X.mg X.base
 kind:X.env.scope.kind = .function
 glob:X.env.globals=mainGlobals
 blt:X.env.builtins=builtinsNs
 above:X.s₀.heap.objs.size<=X.env.locals
 inj:∀ x y c,X.env.cells.lookup x=some c->X.env.cells.lookup y=some c->x=y
 has:∀ x,(X.env.kindOf x=some .cell \/ X.env.kindOf x=some .free)->∃ c,X.env.cells.lookup x=some c
 cab:∀ x c,X.fn x=true->X.env.cells.lookup x=some c->X.s₀.heap.objs.size<=c
 hd:X.calm=true->X.A.handled=none
 frames:X.A.frames=some X.stack
 stk:X.stack=X.outer\/(X.stack=X.env::X.outer/\X.env.frame=some X.env.locals)
 exf:∀ b∈X.ex,b≠X.env.locals/\∀ x c,X.env.cells.lookup x=some c->c≠b
 bs:∀ b o,X.base.get? b=some o->X.s₀.heap.get? b=some o/\X.H₀ b=none
 bsz:X.base.objs.size<=X.s₀.heap.objs.size
 noex:∀ b o,X.base.get? b=some o->b∉X.ex
 exfs:∀ b∈X.ex,b∉X.fs
 funs:X.s₀.heap.FunFrames X.base X.outer
 frf:∀ b∈X.fs,X.H₀ b=none
structure Inv(X:Cx)(pins:List (Addr×Obj))(σ:List (Option V))(H:Hp)(s:Shared):Prop where
 ok:X.Ok
 os:s.os=X.s₀.os
 bare:AllBare s.gens
 base:Un X.fs X.ex X.H₀ H X.s₀.heap s.heap
 loc:∃ m,s.heap.Ns X.env.locals m/\∀(i:Nat)(x:Str)(v:V),X.N[i]? = some x->σ[i]? = some (some v)->Vis X.env.scope x->∃ u,RelV v u/\Look X.env s.heap m x u
 cell:∀ x c,X.env.cells.lookup x=some c->∃ v,s.heap.IsCell c v
 free:H X.env.locals=none
 freeC:∀ x c,X.env.cells.lookup x=some c->H c=none
 pin:∀ p∈X.pn++pins,s.heap.get? p.1=some p.2/\H p.1=none/\p.1≠X.env.locals/\p.1∉X.fs/\∀ v,p.2.data≠.cell v
 hok:HOk X.prog X.w H s.heap
 len:σ.length=X.N.length
section
variable{X:Cx}{pins:List (Addr×Obj)}{σ:List (Option V)}{H H':Hp}{s:Shared}{h':Heap}
theorem Cx.Ok.nofr(ok:X.Ok){b:Addr}{o:Obj}(e:X.base.get? b=some o):b∉X.fs:=fun hb=>by
 have:=(ok.funs.mem hb).1;rw[e]at this;cases this
theorem Inv.bs(I:Inv X pins σ H s):∀ b o,X.base.get? b=some o->s.heap.get? b=some o/\H b=none:=fun b o e =>
 ⟨I.base.keep b o (I.ok.bs b o e).1 (I.ok.bs b o e).2 (I.ok.nofr e) (I.ok.noex b o e),I.base.free b o (I.ok.bs b o e).1 (I.ok.bs b o e).2 (I.ok.noex b o e)⟩
theorem Inv.bk(I:Inv X pins σ H s):∀ b o,X.base.get? b=some o->s.heap.get? b=some o:=fun b o e=>(I.bs b o e).1
theorem Inv.mod(I:Inv X pins σ H s):Mod X.K X.mg X.base:=I.ok.mod
theorem Inv.kIn(I:Inv X pins σ H s):X.K.In s.heap:=I.ok.mod.kin.keeps I.bk
theorem Inv.fr(I:Inv X pins σ H s):∃ m,Fr X.base X.env.locals s.heap m :=
 let ⟨m,hn,_⟩:=I.loc
 ⟨m,hn,I.bk,qnt I.ok.bsz I.ok.above⟩
theorem Inv.lt(I:Inv X pins σ H s):X.env.locals<s.heap.objs.size:=let ⟨_,hn,_⟩:=I.loc;hn.lt
theorem Inv.sz(I:Inv X pins σ H s):X.s₀.heap.objs.size<=s.heap.objs.size:=qnt I.ok.above (Nat.le_of_lt I.lt)
theorem Inv.nofs(I:Inv X pins σ H s){a:Addr}(h:s.heap.objs.size<=a):a∉X.fs:=fun hb=>by
 obtain⟨_,o,ho,_⟩:=I.ok.funs.mem hb;exact absurd (Nat.lt_of_lt_of_le (Heap.lt_size ho) (qnt I.sz h)) (Nat.lt_irrefl _)
theorem Inv.cne(I:Inv X pins σ H s):∀ x c,X.env.cells.lookup x=some c->c≠X.env.locals:=fun x c e z=>by
 obtain⟨v,o,ho,hd⟩:=I.cell x c e;obtain⟨m,⟨o',es,ep,ho',hd',_⟩,_⟩:=I.loc;rw[z,ho']at ho;cases ho;rw[hd']at hd;cases hd
theorem Inv.funs(I:Inv X pins σ H s):s.heap.FunFrames X.base X.outer:=by
 have all:∀(l:List Env),(∀ b∈frs l,b∈X.fs)->X.s₀.heap.FunFrames X.base l->s.heap.FunFrames X.base l:=by
  intro l
  induction l with
  |nil=>intro _ _;trivial
  | cons env r ih =>
   intro hs hl;obtain⟨hk,⟨L,o,hf,hn,ho,hd⟩,hr⟩:=hl;have hL:L∈X.fs:=hs L (by unfold frs;rw[List.filterMap_cons,hf];exact qms);obtain⟨sl,e⟩:=I.base.slot L o ho (I.ok.frf L hL) hL fun z=>I.ok.exfs L z hL
   exact⟨hk,⟨L,_,hf,hn,e,hd⟩,ih (fun b hb=>hs b (by unfold frs;rw[List.filterMap_cons,hf];exact qmm _ hb)) hr⟩
 exact all X.outer (fun _ hb=>hb) I.ok.funs
theorem Inv.stack(I:Inv X pins σ H s):s.heap.FunFrames X.base X.stack:=by
 rcases I.ok.stk with e|⟨e,hf⟩
 . rw[e];exact I.funs
 . rw[e]
   obtain⟨m,hn,_⟩:=I.loc;refine .cons (by rw[I.ok.kind];decide) hf hn ?_ I.funs;exact Heap.get?_none_of_le (qnt I.ok.bsz I.ok.above)
theorem Inv.stkSub(I:Inv X pins σ H s):∀ b∈frs X.stack,b∈X.env.locals::X.fs:=fun b hb=>by
 rcases I.ok.stk with e|⟨e,hf⟩
 . rw[e]at hb;exact qmm _ hb
 . rw[e]at hb
   unfold frs at hb;rw[List.filterMap_cons,hf]at hb;exact hb
theorem Inv.stkFree(I:Inv X pins σ H s):∀ b∈frs X.stack,H b=none:=fun b hb=>by
 rcases List.mem_cons.mp (I.stkSub b hb)with e|hb
 . rw[e];exact I.free
 . obtain⟨_,o,ho,_⟩:=I.ok.funs.mem hb
   exact I.base.free b o ho (I.ok.frf b hb) fun z=>I.ok.exfs b z hb
theorem Inv.step{g':Array GenState}{t':Nat}{d':Drawn}{ch:List Addr}(I:Inv X pins σ H s)
  (hch:∀ b∈ch,(b∈X.ex\/X.s₀.heap.objs.size<=b)/\b≠X.env.locals/\(∀ x c,X.env.cells.lookup x=some c->c≠b)/\∀ p∈X.pn++pins,p.1≠b)
  (keep:∀ b o,b≠X.env.locals->b∉X.fs->b∉ch->s.heap.get? b=some o->H b=none->h'.get? b=some o)
  (slot:∀ b o,b≠X.env.locals->b∈X.fs->b∉ch->s.heap.get? b=some o->H b=none->∃ sl,h'.get? b=some { o with slots:=sl }) (free:∀ b o,b∉ch->s.heap.get? b=some o->H b=none->H' b=none)
  (there:∀ b o,b∉ch->s.heap.get? b=some o->∃ o',h'.get? b=some o')
  (tups:∀ b xs,H b=some (.tup xs)->H' b=some (.tup xs)) (frzs:∀ b o u,H b=some (.frz o u)->H' b=some (.frz o u)) (tbls:∀ b ps,H b=some (.tbl ps)->∃ more,H' b=some (.tbl (ps++more)))
  (ns:∀ m,s.heap.Ns X.env.locals m->h'.Ns X.env.locals m) (hok:HOk X.prog X.w H' h') (hg:AllBare g'):
  Inv X pins σ H' { s with heap:=h',gens:=g',drawn:=d',toks:=t' }:=by
 have neL:∀ b o,X.s₀.heap.get? b=some o->b≠X.env.locals:=fun b o e=>Nat.ne_of_lt (Nat.lt_of_lt_of_le (Heap.lt_size e) I.ok.above)
 have neC:∀ b o,X.s₀.heap.get? b=some o->b∉X.ex->b∉ch:=fun b o e hx hb=>by
  rcases(hch b hb).1 with z|z
  . exact hx z
  . exact absurd (Nat.lt_of_lt_of_le (Heap.lt_size e) z) (Nat.lt_irrefl _)
 have cellK:∀ x c,X.env.cells.lookup x=some c->∀ v,s.heap.IsCell c v->h'.IsCell c v:=fun x c e v ⟨o,ho,hd⟩=>by
  have nch:c∉ch:=fun z=>(hch c z).2.2.1 x c e rfl
  by_cases hc:c∈X.fs
  . obtain⟨sl,q⟩:=slot c o (I.cne x c e) hc nch ho (I.freeC x c e)
    exact⟨_,q,hd⟩
  . exact⟨o,keep c o (I.cne x c e) hc nch ho (I.freeC x c e),hd⟩
 refine⟨I.ok,I.os,hg,⟨fun b o e n hb hx=>?_,fun b o e n hb hx=>?_,fun b o e n hx=>?_,fun b o e hx=>?_,fun b xs e=>tups b xs (I.base.tups b xs e),fun b o xs e=>frzs b o xs (I.base.frzs b o xs e),fun b ps e=>?_⟩,?_,fun x c e=>?_,?_,fun x c e=>?_,fun p hp=>?_,hok,I.len⟩
 . exact keep b o (neL b o e) hb (neC b o e hx) (I.base.keep b o e n hb hx) (I.base.free b o e n hx)
 . obtain⟨sl,e1⟩:=I.base.slot b o e n hb hx
   obtain⟨sl',e2⟩:=slot b _ (neL b o e) hb (neC b o e hx) e1 (I.base.free b o e n hx);exact⟨sl',e2⟩
 . obtain⟨o',e1⟩:=I.base.there b o e hx
   exact free b o' (neC b o e hx) e1 (I.base.free b o e n hx)
 . obtain⟨o',e1⟩:=I.base.there b o e hx
   exact there b o' (neC b o e hx) e1
 . obtain⟨m1,e1⟩:=I.base.tbls b ps e
   obtain⟨m2,e2⟩:=tbls b _ e1;exact⟨m1++m2,by rw[e2,Array.append_assoc]⟩
 . obtain⟨m,hn,hl⟩:=I.loc
   refine⟨m,ns m hn,fun i x v e1 e2 e3=>?_⟩;obtain⟨u,r,l⟩:=hl i x v e1 e2 e3;refine⟨u,r,?_⟩;rcases l with l|⟨k,c,e,z⟩
   . exact .inl l
   . exact .inr ⟨k,c,e,cellK x c e _ z⟩
 . obtain⟨v,z⟩:=I.cell x c e
   exact⟨v,cellK x c e v z⟩
 . obtain⟨m,⟨o,_,_,ho,_⟩,_⟩:=I.loc
   exact free _ o (fun z=>(hch _ z).2.1 rfl) ho I.free
 . obtain⟨v,o,ho,hd⟩:=I.cell x c e
   exact free c o (fun z=>(hch c z).2.2.1 x c e rfl) ho (I.freeC x c e)
 . obtain⟨e,n,ne,nf,d⟩:=I.pin p hp
   have nch:p.1∉ch:=fun z=>(hch p.1 z).2.2.2 p hp rfl
   exact⟨keep p.1 p.2 ne nf nch e n,free p.1 p.2 nch e n,ne,nf,d⟩
theorem Inv.un{t':Nat}(I:Inv X pins σ H s)(u:Un X.fs [] H H' s.heap h')(hok:HOk X.prog X.w H' h'):Inv X pins σ H' { s with heap:=h',toks:=t' }:=by
 obtain⟨m,⟨o,es,ep,ho,r⟩,_⟩:=id I.loc;obtain⟨sl,hL⟩:=u.any ho I.free (by simp)
 exact I.step (g':=s.gens) (d':=s.drawn) (ch:=[]) (fun _ z=>nomatch z) (fun b o _ hb _ e n=>u.keep b o e n hb (by simp)) (fun b o _ hb _ e n=>u.slot b o e n hb (by simp)) (fun b o _ e n=>u.free b o e n (by simp)) (fun b o _ e=>u.there b o e (by simp)) u.tups u.frzs u.tbls (fun m' hm=>by
  obtain⟨o',es',ep',ho',r'⟩:=hm;rw[ho]at ho';cases ho'
  exact⟨_,es',ep',hL,r'⟩) hok I.bare
theorem Inv.call{g':Array GenState}{t':Nat}{d':Drawn}{ch:List Addr}(I:Inv X pins σ H s)(u:Un (frs X.stack) ch H H' s.heap h')(hok:HOk X.prog X.w H' h')(hg:AllBare g')
  (hch:∀ b∈ch,(b∈X.ex\/X.s₀.heap.objs.size<=b)/\b≠X.env.locals/\(∀ x c,X.env.cells.lookup x=some c->c≠b)/\∀ p∈X.pn++pins,p.1≠b):
  Inv X pins σ H' { s with heap:=h',gens:=g',drawn:=d',toks:=t' }:=by
 obtain⟨m,⟨o,es,ep,ho,r⟩,_⟩:=id I.loc;obtain⟨sl,hL⟩:=u.any ho I.free fun z=>(hch _ z).2.1 rfl
 exact I.step (ch:=ch) hch (fun b o hL hb hc e n=>u.keep b o e n (fun z=>(List.mem_cons.mp (I.stkSub b z)).elim hL hb) hc) (fun b o _ _ hc e n=>u.any e n hc) (fun b o hc e n=>u.free b o e n hc) (fun b o hc e=>u.there b o e hc) u.tups u.frzs u.tbls (fun m' hm=>by
  obtain⟨o',es',ep',ho',r'⟩:=hm;rw[ho]at ho';cases ho'
  exact⟨_,es',ep',hL,r'⟩) hok hg
theorem Inv.turned{t':Nat}{it:Addr}(I:Inv X pins σ H s)(k:∀ b o,b≠it->s.heap.get? b=some o->h'.get? b=some o)(hn:H it=none)(hL:it≠X.env.locals)
  (h1:it∈X.ex\/X.s₀.heap.objs.size<=it) (h2:∀ x c,X.env.cells.lookup x=some c->c≠it) (h3:∀ p∈X.pn++pins,p.1≠it):Inv X pins σ H { s with heap:=h',toks:=t' }:=by
 have nit:∀ b u,H b=some u->b≠it:=fun b u e z=>by rw[z,hn]at e;cases e
 refine I.step (g':=s.gens) (d':=s.drawn) (ch:=[it]) (fun b hb=>?_) (fun b o _ _ hc e _=>k b o (fun z=>hc (by simp[z])) e) (fun b o _ _ hc e _=>⟨o.slots,k b o (fun z=>hc (by simp[z])) e⟩) (fun _ _ _ _ n=>n)
  (fun b o hc e=>⟨o,k b o (fun z=>hc (by simp[z])) e⟩) (fun _ _ e=>e) (fun _ _ _ e=>e) (fun b ps e=>⟨#[],by rw[e];simp⟩) (fun m hm=>?_) (fun b u e=>?_) I.bare
 . have e:b=it:=by simpa using hb
   subst e;exact⟨h1,hL,h2,h3⟩
 . obtain⟨o,es,ep,ho,r⟩:=hm
   exact⟨o,es,ep,k _ o (Ne.symm hL) ho,r⟩
 . refine(I.hok b u e).stay (fun c v hc q=>k c v ?_ q) (fun _ q=>q) fun _ _ q=>q
   rcases hc with z|z
   . rw[z];exact nit b u e
   . exact nit c _ z
theorem Inv.tok(I:Inv X pins σ H s)(t:Nat):Inv X pins σ H { s with toks:=t }:=I.un (h':=s.heap) (t':=t) Un.refl I.hok
theorem Inv.kept{t':Nat}(I:Inv X pins σ H s)(k:∀ b u,s.heap.get? b=some u->h'.get? b=some u):Inv X pins σ H { s with heap:=h',toks:=t' }:=I.un (Un.kept k) (I.hok.kept k)
theorem Inv.laid{a:Addr}{o:HO}{t':Nat}(I:Inv X pins σ H s)(k:∀ b u,s.heap.get? b=some u->h'.get? b=some u)(hp:s.heap.objs.size<=a)(new:ObjOk X.prog X.w (upd H a o) h' a o):
  Inv X pins σ (upd H a o) { s with heap:=h',toks:=t' }:=I.un (Un.laid k hp (I.hok.fresh hp)) (I.hok.laid k hp new)
theorem Inv.write{x e:Addr}{o:HO}{t':Nat}(I:Inv X pins σ H s)(mu:Mut (H x))(he:e=x\/H e=some (.own x))(k:∀ b u,b≠e->s.heap.get? b=some u->h'.get? b=some u)(heo:∃ u,h'.get? e=some u)
  (new:ObjOk X.prog X.w (upd H x o) h' x o):Inv X pins σ (upd H x o) { s with heap:=h',toks:=t' }:=I.un (Un.write mu he k heo) (I.hok.write mu he k heo new)
theorem Inv.weak{σ':List (Option V)}(I:Inv X pins σ H s)(hl:σ'.length=σ.length)(w:∀(i:Nat) v,σ'[i]? = some (some v)->σ[i]? = some (some v)):Inv X pins σ' H s :=
 ⟨I.ok,I.os,I.bare,I.base,let ⟨m,hn,hl'⟩:=I.loc;⟨m,hn,fun i x v e1 e2 e3=>hl' i x v e1 (w i v e2) e3⟩,I.cell,I.free,I.freeC,I.pin,I.hok,hl.trans I.len⟩
theorem Inv.pins_of{pins':List (Addr×Obj)}(I:Inv X pins σ H s)(h:∀ p∈pins',s.heap.get? p.1=some p.2/\H p.1=none/\p.1≠X.env.locals/\p.1∉X.fs/\∀ v,p.2.data≠.cell v):Inv X pins' σ H s :=
 ⟨I.ok,I.os,I.bare,I.base,I.loc,I.cell,I.free,I.freeC,fun p hp=>(List.mem_append.mp hp).elim (fun z=>I.pin p (qal _ z)) (h p),I.hok,I.len⟩
theorem vV{N:List Str}(hN:N.Nodup){i j:Nat}{x:Str}(a:N[i]? = some x)(b:N[j]? = some x):i=j:=by
 obtain⟨h1,e1⟩:=List.getElem?_eq_some_iff.mp a;obtain⟨h2,e2⟩:=List.getElem?_eq_some_iff.mp b;exact(List.getElem_inj hN).mp (e1.trans e2.symm)
theorem ut{M:Model}{A:Around}{E:Value->Shared->Prop}{i:Nat}{x:Str}{v:V}{u:Value}{Q:Unit->Shared->Prop}(I:Inv X pins σ H s)(hN:X.N.Nodup)(hi:X.N[i]? = some x)(hx:Loc X.env.scope x)(r:RelV v u)
  (h:∀ s',Inv X pins (σ.set i (some v)) H s'->(∃ a,Heap.SameBut a s.heap s'.heap/\(a=X.env.locals\/X.env.cells.lookup x=some a))->Q () s') (hf:X.fn x=true\/X.env.scope.names.lookup x=some .local:=by first|exact .inl rfl|exact .inr rfl|assumption):wpAny M A (storeName X.env x u) Q E s:=by
 obtain⟨m,hn,hl⟩:=id I.loc;have hcls:(X.env.scope.kind == .class || (X.env.scope.kind == .module && X.env.locals != X.env.globals))=false:=by rw[I.ok.kind];rfl
 have hiσ:i<σ.length:=by rw[I.len];exact(List.getElem?_eq_some_iff.mp hi).1
 have cne:=I.cne
 have tracked:∀{a:Addr}{h':Heap},(∃ o,s.heap.get? a=some o/\H a=none)->Heap.SameBut a s.heap h'->HOk X.prog X.w H h':=fun {a h'} ha hs b ob e=>by
  obtain⟨_,_,hfree⟩:=ha;refine(I.hok b ob e).stay (fun c w' hc q=>(hs.2 c ?_).trans q) (fun _ q=>q) fun _ _ q=>q
  rintro rfl;rcases hc with rfl|hc
  . rw[hfree]at e;cases e
  . rw[hfree]at hc;cases hc
 rcases hx with hk|hk
 . refine wpAny_storeName_local hk hn (fun h' hn' hs=>?_) hcls
   obtain⟨oL,_,_,hoL,_⟩:=id hn;refine h _ ⟨I.ok,I.os,I.bare,⟨fun b o e n hb hx=>?_,fun b o e n hb hx=>?_,I.base.free,fun b o e hx=>?_,I.base.tups,I.base.frzs,I.base.tbls⟩,⟨_,hn',fun j y v' e1 e2 e3=>?_⟩,fun y c e=>?_,I.free,I.freeC,fun p hp=>?_,tracked ⟨oL,hoL,I.free⟩ hs,by simpa using I.len⟩ ⟨_,hs,.inl rfl⟩
   . exact(hs.2 b (Nat.ne_of_lt (Nat.lt_of_lt_of_le (Heap.lt_size e) I.ok.above))).trans (I.base.keep b o e n hb hx)
   . obtain⟨sl,e1⟩:=I.base.slot b o e n hb hx
     exact⟨sl,(hs.2 b (Nat.ne_of_lt (Nat.lt_of_lt_of_le (Heap.lt_size e) I.ok.above))).trans e1⟩
   . obtain⟨o',e1⟩:=I.base.there b o e hx
     exact⟨o',(hs.2 b (Nat.ne_of_lt (Nat.lt_of_lt_of_le (Heap.lt_size e) I.ok.above))).trans e1⟩
   . by_cases hj:j=i
     . subst hj
       rw[hi]at e1;cases e1;rw[List.getElem?_set_self hiσ]at e2;cases e2;exact⟨u,r,.inl ⟨hk,by simp⟩⟩
     . rw[List.getElem?_set_ne (Ne.symm hj)]at e2
       obtain⟨u',r',q⟩:=hl j y v' e1 e2 e3;refine⟨u',r',?_⟩;rcases q with⟨k,e⟩|⟨k,c,e,z⟩
       . refine .inl ⟨k,?_⟩
         have:y≠x:=fun e=>hj (vV hN e1 (e ▸ hi))
         simp[this,e]
       . exact .inr ⟨k,c,e,z.sameBut hs (cne y c e)⟩
   . obtain⟨w',z⟩:=I.cell y c e
     exact⟨w',z.sameBut hs (cne y c e)⟩
   . obtain⟨e,n,ne,nf,d⟩:=I.pin p hp
     exact⟨(hs.2 p.1 ne).trans e,n,ne,nf,d⟩
 . have hfn:X.fn x=true:=by
    rcases hf with z|z
    . exact z
    . rw[z]at hk;cases hk
   obtain⟨c,hc⟩:=I.ok.has x (.inl hk);obtain⟨w',z⟩:=I.cell x c hc;refine wpAny_storeName_cell I.ok.kind hk hc z (fun h' hc' hs=>?_);obtain⟨oc,hoc,hocd⟩:=id z;refine h { s with heap:=h' } ⟨I.ok,I.os,I.bare,⟨fun b o e n hb hx=>?_,fun b o e n hb hx=>?_,I.base.free,fun b o e hx=>?_,I.base.tups,I.base.frzs,I.base.tbls⟩,⟨m,hn.sameBut hs (Ne.symm (cne x c hc)),fun j y v' e1 e2 e3=>?_⟩,fun y c' e=>?_,I.free,I.freeC,fun p hp=>?_,tracked ⟨oc,hoc,I.freeC x c hc⟩ hs,by simpa using I.len⟩ ⟨c,hs,.inr hc⟩
   . exact(hs.2 b (Nat.ne_of_lt (Nat.lt_of_lt_of_le (Heap.lt_size e) (I.ok.cab x c hfn hc)))).trans (I.base.keep b o e n hb hx)
   . obtain⟨sl,e1⟩:=I.base.slot b o e n hb hx
     exact⟨sl,(hs.2 b (Nat.ne_of_lt (Nat.lt_of_lt_of_le (Heap.lt_size e) (I.ok.cab x c hfn hc)))).trans e1⟩
   . obtain⟨o',e1⟩:=I.base.there b o e hx
     exact⟨o',(hs.2 b (Nat.ne_of_lt (Nat.lt_of_lt_of_le (Heap.lt_size e) (I.ok.cab x c hfn hc)))).trans e1⟩
   . by_cases hj:j=i
     . subst hj
       rw[hi]at e1;cases e1;rw[List.getElem?_set_self hiσ]at e2;cases e2;exact⟨u,r,.inr ⟨.inl hk,c,hc,hc'⟩⟩
     . rw[List.getElem?_set_ne (Ne.symm hj)]at e2
       obtain⟨u',r',q⟩:=hl j y v' e1 e2 e3;refine⟨u',r',?_⟩;rcases q with q|⟨k,c',e,z'⟩
       . exact .inl q
       . refine .inr ⟨k,c',e,z'.sameBut hs ?_⟩
         rintro rfl;exact hj (vV hN e1 (I.ok.inj _ _ _ e hc ▸ hi))
   . by_cases hcc:c'=c
     . subst hcc;exact⟨_,hc'⟩
     . obtain⟨w2,z2⟩:=I.cell y c' e
       exact⟨w2,z2.sameBut hs hcc⟩
   . obtain⟨e,n,ne,nf,d⟩:=I.pin p hp
     refine⟨(hs.2 p.1 ?_).trans e,n,ne,nf,d⟩;intro q;rw[q,hoc]at e;have q':oc=p.2:=qsi e;exact d w' (by rw[<- q'];exact hocd)
theorem mV{M:Model}{A:Around}{E:Value->Shared->Prop}{i:Nat}{x:Str}{v:V}{u:Value}{Q:Unit->Shared->Prop}(I:Inv X pins σ H s)(hN:X.N.Nodup)(hi:X.N[i]? = some x)(hx:Loc X.env.scope x)(r:RelV v u)
  (h:∀ s',Inv X pins (σ.set i (some v)) H s'->Q () s') (hf:X.fn x=true\/X.env.scope.names.lookup x=some .local:=by first|exact .inl rfl|exact .inr rfl|assumption):wpAny M A (storeName X.env x u) Q E s :=
 ut I hN hi hx r (fun s' I' _=>h s' I') hf
theorem Inv.call'{s':Shared}{ch:List Addr}(I:Inv X pins σ H s)(ho:s'.os=s.os)(u:Un (frs X.stack) ch H H' s.heap s'.heap)(hok:HOk X.prog X.w H' s'.heap)(hg:AllBare s'.gens)
  (hch:∀ b∈ch,(b∈X.ex\/X.s₀.heap.objs.size<=b)/\b≠X.env.locals/\(∀ x c,X.env.cells.lookup x=some c->c≠b)/\∀ p∈X.pn++pins,p.1≠b):Inv X pins σ H' s':=by
 obtain⟨h',g',d',t',o'⟩:=s';have e:o'=s.os:=ho;subst e;exact I.call (g':=g') (t':=t') (d':=d') u hok hg hch
end
abbrev XK:=Value->Option Addr->Hp->Prop
abbrev St:=List (Option V)
abbrev VK:=V->Hp->Prop
abbrev TE:=St->Hp->VK->Prop
abbrev TT:=St->Hp->(Bool->Hp->Prop)->Prop
abbrev TA:=St->Hp->(List V->Hp->Prop)->Prop
structure Ends where
 nx:St->Hp->Prop
 rt:VK
 bk:St->Hp->Prop:=fun _ _=>False
 ct:St->Hp->Prop:=fun _ _=>False
abbrev TS:=Ends->St->Hp->Prop
def EP(X:Cx)(pins:List (Addr×Obj))(σ:St)(Q:VK)(u:Value)(s':Shared):Prop:=∃ v H',Inv X pins σ H' s'/\RelV v u/\Q v H'
def TP(X:Cx)(pins:List (Addr×Obj))(σ:St)(Q:Bool->Hp->Prop)(b:Bool)(s':Shared):Prop:=∃ H',Inv X pins σ H' s'/\Q b H'
def AP(X:Cx)(pins:List (Addr×Obj))(σ:St)(Q:List V->Hp->Prop)(us:List Value)(s':Shared):Prop:=∃ vs H',Inv X pins σ H' s'/\Vals vs us/\Q vs H'
def SP(X:Cx)(pins:List (Addr×Obj))(D:Ends)(f:Flow)(s':Shared):Prop :=
 match f with
 | .next=>∃ σ' H',Inv X pins σ' H' s'/\D.nx σ' H'
 | .brk=>∃ σ' H',Inv X pins σ' H' s'/\D.bk σ' H'
 | .cont=>∃ σ' H',Inv X pins σ' H' s'/\D.ct σ' H'
 | .ret u=>∃ v σ' H',Inv X pins σ' H' s'/\RelV v u/\D.rt v H'
def PE(X:Cx)(e:Expr)(t:TE):Prop :=
 ∀(pins:List (Addr×Obj))(s:Shared)(σ:St)(H:Hp)(Q:VK),Inv X pins σ H s->t σ H Q->wpAny (model X.prog X.w) X.A (eval e X.env) (EP X pins σ Q) X.xe s
def PT(X:Cx)(e:Expr)(t:TT):Prop :=
 ∀(pins:List (Addr×Obj))(s:Shared)(σ:St)(H:Hp)(Q:Bool->Hp->Prop),Inv X pins σ H s->t σ H Q->wpAny (model X.prog X.w) X.A (isTrue e X.env (eval e X.env)) (TP X pins σ Q) X.xe s
def PW(X:Cx)(e:Expr)(t:TT):Prop :=
 ∀(whole:Sem Value)(pins:List (Addr×Obj))(s:Shared)(σ:St)(H:Hp)(Q:Bool->Hp->Prop),Inv X pins σ H s->t σ H Q->wpAny (model X.prog X.w) X.A (isTrue e X.env whole) (TP X pins σ Q) X.xe s
theorem PW.pt{X:Cx}{e:Expr}{t:TT}(h:PW X e t):PT X e t:=h _
def PA(X:Cx)(es:List Expr)(t:TA):Prop :=
 ∀(pos:Pos)(pins:List (Addr×Obj))(s:Shared)(σ:St)(H:Hp)(Q:List V->Hp->Prop),Inv X pins σ H s->t σ H Q->wpAny (model X.prog X.w) X.A (spliced (backTo pos (starEach es X.env))) (AP X pins σ Q) X.xe s
def PS(X:Cx)(st:Stmt)(t:TS):Prop :=
 ∀(pins:List (Addr×Obj))(s:Shared)(σ:St)(H:Hp)(D:Ends),Inv X pins σ H s->t D σ H->wpAny (model X.prog X.w) X.A (exec st X.env) (SP X pins D) X.xe s
def PSs(X:Cx)(st:List Stmt)(t:TS):Prop :=
 ∀(pins:List (Addr×Obj))(s:Shared)(σ:St)(H:Hp)(D:Ends),Inv X pins σ H s->t D σ H->wpAny (model X.prog X.w) X.A (execs st X.env) (SP X pins D) X.xe s
theorem thn{α:Type}{t:Sem α}{Q Q':α->Shared->Prop}{M:Model}{A:Around}{E:Value->Shared->Prop}{s:Shared}(h:wpAny M A t Q E s)(hQ:∀ a s,Q a s->Q' a s):wpAny M A t Q' E s:=wpAny_mono h hQ fun _ _ x=>x
end L2
namespace L2
open PySem PySem.Spec PyProof.Rows
section
variable{X:Cx}
theorem bin{a b:Expr}{ta tb:TE}(ha:PE X a ta)(hb:PE X b tb){pins:List (Addr×Obj)}{s:Shared}{σ:St}{H:Hp}{R:V->V->Hp->Prop}(I:Inv X pins σ H s)(h:ta σ H fun x H1=>tb σ H1 fun y H2=>R x y H2)
  {α:Type} {Q:α->Shared->Prop} {f:Value->Value->Sem α}
  (hf:∀ v u s2 x y H2,Inv X pins σ H2 s2->RelV x v->RelV y u->R x y H2->wpAny (model X.prog X.w) X.A (f v u) Q X.xe s2):
  wpAny (model X.prog X.w) X.A (eval a X.env) (fun v s₁=>wpAny (model X.prog X.w) X.A (eval b X.env) (fun u s₂=>wpAny (model X.prog X.w) X.A (f v u) Q X.xe s₂) X.xe s₁) X.xe s:=by
 refine thn (ha pins s σ H _ I h) fun v s1 ⟨x,H1,I1,r1,q1⟩=>?_
 refine thn (hb pins s1 σ H1 _ I1 q1) fun u s2 ⟨y,H2,I2,r2,q2⟩=>?_
 exact hf v u s2 x y H2 I2 r1 r2 q2
inductive tVar(i:Nat)(σ:St)(H:Hp)(Q:VK):Prop
 |mk (v) (_:σ[i]? = some (some v)) (_:Q v H)
def tC(v:V):TE:=fun _ H Q=>Q v H
theorem vW {i:Nat} {x:Str} {pos:Pos} (hN:X.N[i]? = some x) (hv:Vis X.env.scope x) (hd:(x == ("__debug__":Str))=false:=by decide) (hcd:(x == ("__classdict__":Str))=false:=by decide):PE X (.Name x pos) (tVar i):=by
 intro pins s σ H Q I h;obtain⟨v,e,h⟩:=h;obtain⟨m,hn,hl⟩:=I.loc;obtain⟨u,r,l⟩:=hl i x v hN e hv;have fin:EP X pins σ Q u s:=⟨v,H,I,r,h⟩
 rcases l with⟨hk,hm⟩|⟨hk,c,hc,hcell⟩
 . exact wpAny_Name (wpAny_loadName_local I.ok.kind hk hn hm fin) hd
 . rcases hk with hk|hk
   . exact wpAny_Name (wpAny_loadName_cell I.ok.kind hk hc hcell fin) hd
   . exact wpAny_Name (wpAny_loadName_free I.ok.kind hk hc hcell fin hcd) hd
theorem ak{i j pos}:PE X (.Constant (.int i) j pos) (tC (.int i)):=fun _ _ _ H _ I h=>wpAny_Constant_int ⟨.int i,H,I.tok _,⟨_,rfl⟩,h⟩
theorem eQ{b j pos}:PE X (.Constant (.bool b) j pos) (tC (.bl b)):=fun _ _ _ H _ I h=>Constant_bool ⟨.bl b,H,I,rfl,h⟩
theorem bK{j pos}:PE X (.Constant .none j pos) (tC .non):=fun _ _ _ H _ I h=>Constant_none ⟨.non,H,I,rfl,h⟩
theorem az{x j pos}:PE X (.Constant (.str x) j pos) (tC (.str x)):=fun _ _ _ H _ I h=>Calls.Constant_str ⟨.str x,H,I.tok _,⟨_,rfl⟩,h⟩
def Gl(X:Cx)(x:Str):Prop:=X.env.kindOf x=some .globalImplicit
theorem je{E:Value->Shared->Prop}{pins:List (Addr×Obj)}{s:Shared}{σ:St}{H:Hp}{x:Str}{u:Value}{pos:Pos}{Q:Value->Shared->Prop}(I:Inv X pins σ H s)(hg:Gl X x)(hm:X.mg x=some u)(h:Q u s)
  (hd:(x == ("__debug__":Str))=false:=by decide):wpAny (model X.prog X.w) X.A (eval (.Name x pos) X.env) Q E s :=
 Calls.Name_function_global I.ok.kind hg (Calls.loadGlobal_global (by rw[I.ok.glob];exact I.mod.glob.keeps I.bk) hm h) hd
theorem j7{E:Value->Shared->Prop}{pins:List (Addr×Obj)}{s:Shared}{σ:St}{H:Hp}{x:Str}{u:Value}{pos:Pos}{Q:Value->Shared->Prop}(I:Inv X pins σ H s)(hg:Gl X x)(hm:X.mg x=none)(hv:bootBuiltins x=some u)(h:Q u s)
  (hn:x≠"__name__":=by decide) (hd:(x == ("__debug__":Str))=false:=by decide):wpAny (model X.prog X.w) X.A (eval (.Name x pos) X.env) Q E s:=by
 obtain⟨mb,h1,h2⟩:=I.mod.blt;exact Calls.Name_function_global I.ok.kind hg (Calls.loadGlobal_builtin (by rw[I.ok.glob];exact I.mod.glob.keeps I.bk) hm (by rw[I.ok.blt];exact h1.keeps I.bk) ((h2 x hn).trans hv) h) hd
theorem JL {x:Str} {v:V} {u:Value} {pos:Pos} (hg:Gl X x) (hm:X.mg x=some u) (r:RelV v u) (hd:(x == ("__debug__":Str))=false:=by decide):PE X (.Name x pos) (tC v):=
 fun _ _ _ H _ I h=>je I hg hm ⟨v,H,I,r,h⟩ hd
theorem JM {x:Str} {v:V} {u:Value} {pos:Pos} (hg:Gl X x) (hm:X.mg x=none) (hv:bootBuiltins x=some u) (r:RelV v u) (hn:x≠"__name__":=by decide) (hd:(x == ("__debug__":Str))=false:=by decide):PE X (.Name x pos) (tC v):=
 fun _ _ _ H _ I h=>j7 I hg hm hv ⟨v,H,I,r,h⟩ hn hd
variable{a b:Expr}{ta tb:TE}{pos:Pos}
def PC(X:Cx)(op:CmpOp)(a b:Expr)(t:TE):Prop :=
 ∀(pins:List (Addr×Obj))(s:Shared)(σ:St)(H:Hp)(Q:VK),Inv X pins σ H s->t σ H Q ->
  wpAny (model X.prog X.w) X.A (eval a X.env) (fun v s₁=>wpAny (model X.prog X.w) X.A (eval b X.env) (fun u s₂=>wpAny (model X.prog X.w) X.A (compareOp op v u) (EP X pins σ Q) X.xe s₂) X.xe s₁) X.xe s
inductive iB(Q:Bool->Hp->Prop)(x:V)(H:Hp):Prop
 |mk (c:Bool) (_:x = .bl c) (_:Q c H)
def tB(t:TE):TT:=fun σ H Q=>t σ H fun x H1=>iB Q x H1
theorem rD{op:CmpOp}{t:TE}(h:PC X op a b t)(h1:behindInMarks op b=false:=by first|exact nobehind _ (by decide) (by decide)|rfl):PT X (.Compare a [op] [b] pos) (tB t):=by
 intro pins s σ H Q I hw;refine wpAny_isTrue_Compare1 (thn (h pins s σ H _ I hw) fun v s1 h1=>thn h1 fun u s2 h2=>thn h2 fun c s3 ⟨x,H1,I1,r1,q1⟩=>?_) h1;obtain⟨d,rfl,q⟩:=q1;cases r1;exact wpAny_truthy_bool ⟨H1,I1,q⟩
theorem bZ{e:Expr}{t:TE}(h:PE X e t)(he:∀ whole,isTrue e X.env whole=(do let v <- whole;standAt e.pos;holding [v] (truthy v)):=by intro _;rfl):PT X e (tB t):=by
 intro pins s σ H Q I hw;refine isTrue_plain (thn (h pins s σ H _ I hw) fun v s1 ⟨x,H1,I1,r1,q1⟩=>?_) (he _);obtain⟨d,rfl,q⟩:=q1;cases r1;exact wpAny_truthy_bool ⟨H1,I1,q⟩
variable{tA tB':TT}{rest:List Expr}
def Oq(t u:TT):TT:=fun σ H Q=>t σ H fun c H1=>if c=true then u σ H1 Q else Q false H1
def tOr(t u:TT):TT:=fun σ H Q=>t σ H fun c H1=>if c=true then Q true H1 else u σ H1 Q
def Ot(t:TT):TT:=fun σ H Q=>t σ H fun c H1=>Q (!c) H1
theorem jf(ha:PT X a tA):PW X (.BoolOp .And [a] pos) tA:=by
 intro wh pins s σ H Q I h;refine isTrue_and (thn (ha pins s σ H Q I h) fun c s1 e=>?_);cases c with
 |true=>exact isTrue_and_nil e
 |false=>exact e
theorem gP(ha:PT X a tA):PW X (.BoolOp .Or [a] pos) tA:=by
 intro wh pins s σ H Q I h;refine isTrue_or (thn (ha pins s σ H Q I h) fun c s1 e=>?_);cases c with
 |false=>exact isTrue_or_nil e
 |true=>exact e
theorem jC(ha:PT X a tA)(hb:PW X (.BoolOp .And (b::rest) pos) tB'):PW X (.BoolOp .And (a::b::rest) pos) (Oq tA tB'):=by
 intro wh pins s σ H Q I h;refine isTrue_and (thn (ha pins s σ H _ I h) fun c s1 ⟨H1,I1,q1⟩=>?_);cases c with
 |true=>exact hb wh pins s1 σ H1 Q I1 q1
 |false=>exact⟨H1,I1,q1⟩
theorem gm(ha:PT X a tA)(hb:PW X (.BoolOp .Or (b::rest) pos) tB'):PW X (.BoolOp .Or (a::b::rest) pos) (tOr tA tB'):=by
 intro wh pins s σ H Q I h;refine isTrue_or (thn (ha pins s σ H _ I h) fun c s1 ⟨H1,I1,q1⟩=>?_);cases c with
 |true=>exact⟨H1,I1,q1⟩
 |false=>exact hb wh pins s1 σ H1 Q I1 q1
theorem cQ(ha:PT X a tA):PT X (.UnaryOp .Not a pos) (Ot tA):=by
 intro pins s σ H Q I h;exact isTrue_not (ha pins s σ H (fun c H1=>Q (!c) H1) I h)
def Ni(ta tb:TE):TE:=fun σ H Q=>ta σ H fun x H1=>∃ c,x = .bl c/\if c=true then tb σ H1 Q else Q (.bl false) H1
def Ou(ta tb:TE):TE:=fun σ H Q=>ta σ H fun x H1=>∃ c,x = .bl c/\if c=true then Q (.bl true) H1 else tb σ H1 Q
def Nj(ta:TE):TE:=fun σ H Q=>ta σ H fun x H1=>∃ c,x = .bl c/\Q (.bl (!c)) H1
theorem my{op}{t:TE}(h:PE X a t):PE X (.BoolOp op [a] pos) t:=fun pins s σ H Q I hw=>BoolOp_one (h pins s σ H Q I hw)
theorem ou(ha:PE X a ta)(hb:PE X (.BoolOp .And (b::rest) pos) tb):PE X (.BoolOp .And (a::b::rest) pos) (Ni ta tb):=by
 intro pins s σ H Q I h;refine BoolOp_and (thn (ha pins s σ H _ I h) fun v s1 ⟨x,H1,I1,r1,q1⟩=>?_);obtain⟨c,rfl,q1⟩:=q1;cases r1;refine wpAny_truthy_bool ?_;cases c with
 |true=>exact hb pins s1 σ H1 Q I1 q1
 |false=>exact⟨.bl false,H1,I1,rfl,q1⟩
theorem Nk(ha:PE X a ta)(hb:PE X (.BoolOp .Or (b::rest) pos) tb):PE X (.BoolOp .Or (a::b::rest) pos) (Ou ta tb):=by
 intro pins s σ H Q I h;refine BoolOp_or (thn (ha pins s σ H _ I h) fun v s1 ⟨x,H1,I1,r1,q1⟩=>?_);obtain⟨c,rfl,q1⟩:=q1;cases r1;refine wpAny_truthy_bool ?_;cases c with
 |false=>exact hb pins s1 σ H1 Q I1 q1
 |true=>exact⟨.bl true,H1,I1,rfl,q1⟩
theorem Ld(ha:PE X a ta):PE X (.UnaryOp .Not a pos) (Nj ta):=by
 intro pins s σ H Q I h;refine UnaryOp_ (thn (ha pins s σ H _ I h) fun v s1 ⟨x,H1,I1,r1,q1⟩=>?_);obtain⟨c,rfl,q1⟩:=q1;cases r1;exact not_of (wpAny_truthy_bool ⟨.bl (!c),H1,I1,rfl,q1⟩)
def tIf(t:TT)(ta tb:TE):TE:=fun σ H Q=>t σ H fun c H1=>if c=true then ta σ H1 Q else tb σ H1 Q
theorem fC{c:Expr}(hc:PT X c tA)(ha:PE X a ta)(hb:PE X b tb):PE X (.IfExp c a b pos) (tIf tA ta tb):=by
 intro pins s σ H Q I h;refine wpAny_IfExp (thn (hc pins s σ H _ I h) fun d s1 ⟨H1,I1,q1⟩=>?_);cases d with
 |true=>exact ha pins s1 σ H1 Q I1 q1
 |false=>exact hb pins s1 σ H1 Q I1 q1
end
end L2
namespace L2
open PySem PySem.Spec PyProof.Rows
def SqL(K:W.Frag)(H:Hp)(a:Addr)(xs:List V):Prop :=
 Rd H a (.lst xs) \/
  ∃(o:Obj) (its:Array Value) (n:Nat),K.lookup a=some o/\o.cls = .type "list"/\o.dict=none/\o.data = .seq its n/\its.size<=sizeLine/\Vals xs its.toList
def SqT(K:W.Frag)(H:Hp)(a:Addr)(xs:List V):Prop :=
 Rd H a (.tup xs) \/
  ∃(o:Obj) (its:Array Value) (n:Nat),K.lookup a=some o/\o.cls = .type "tuple"/\o.data = .seq its n/\its.size<=sizeLine/\Vals xs its.toList
def Ov:Value->Option V
 | .none=>some .non
 | .bool b=>some (.bl b)
 | .int i _=>some (.int i)
 | .str x _=>some (.str x)
 | .bytes b _=>some (.byt b)
 | .float b _=>some (.flt b)
 | .ref a=>some (.ref a)
 | .type n=>some (.ty n)
 |_=>none
theorem RelV.abs{x:V}{u:Value}(r:RelV x u):Ov u=some x:=by
 cases x with
 |non=>cases r;rfl
 |bl _=>cases r;rfl
 |int _=>obtain⟨t,rfl⟩:=r;rfl
 |str _=>obtain⟨t,rfl⟩:=r;rfl
 |byt _=>obtain⟨t,rfl⟩:=r;rfl
 |flt _=>obtain⟨t,rfl⟩:=r;rfl
 |ref _=>cases r;rfl
 |ty _=>cases r;rfl
theorem RelV.inj{x y:V}{u:Value}(r:RelV x u)(q:RelV y u):x=y:=qsi (r.abs.symm.trans q.abs)
theorem Vals.inj:∀{xs ys:List V}{us:List Value},Vals xs us->Vals ys us->xs=ys
 |_,_,_,.nil,.nil=>rfl
 |_,_,_,.cons r t,.cons r' t'=>by rw[r.inj r',Vals.inj t t']
section
variable{X:Cx}{pins:List (Addr×Obj)}{σ:St}{H:Hp}{s:Shared}{a:Addr}{xs ys:List V}
theorem SqL.of{K:W.Frag}(h:H a=some (.lst xs)):SqL K H a xs:=.inl (.inl h)
theorem SqT.of{K:W.Frag}(h:H a=some (.tup xs)):SqT K H a xs:=.inl (.inl h)
theorem Inv.list(I:Inv X pins σ H s)(h:SqL X.K H a xs):∃ its:List Value,Vals xs its/\PlainL s.heap a its.toArray/\xs.length<=sizeLine:=by
 rcases h with h|⟨o,its,n,hk,hc,hd,hs,hz,r⟩
 . obtain⟨z,its,n,r,e⟩:=h.ok I.hok
   exact⟨its,r,⟨_,n,e,rfl,rfl,rfl⟩,z⟩
 . refine⟨its.toList,r,⟨o,n,I.kIn a o hk,hc,hd,by simpa using hs⟩,?_⟩
   have e:=r.length;simp only[Array.length_toList]at e;omega
theorem Inv.tuple(I:Inv X pins σ H s)(h:SqT X.K H a xs):∃ its:List Value,Vals xs its/\IsTup s.heap a its.toArray/\xs.length<=sizeLine:=by
 rcases h with h|⟨o,its,n,hk,hc,hs,hz,r⟩
 . obtain⟨z,its,r,p⟩:=h.ok I.hok
   exact⟨its,r,p.tup,z⟩
 . refine⟨its.toList,r,⟨o,I.kIn a o hk,hc,n,by simpa using hs⟩,?_⟩
   have e:=r.length;simp only[Array.length_toList]at e;omega
theorem Inv.list_inj(I:Inv X pins σ H s)(h:SqL X.K H a xs)(h':SqL X.K H a ys):xs=ys:=by
 obtain⟨its,r,⟨o,n,e,_,_,d⟩,_⟩:=I.list h;obtain⟨its',r',⟨o',n',e',_,_,d'⟩,_⟩:=I.list h';rw[e]at e';cases e';rw[d]at d'
 injection d' with d1 _
 have:its=its':=by simpa using congrArg Array.toList d1
 subst this;exact r.inj r'
theorem Inv.tuple_inj(I:Inv X pins σ H s)(h:SqT X.K H a xs)(h':SqT X.K H a ys):xs=ys:=by
 obtain⟨its,r,⟨o,e,_,n,d⟩,_⟩:=I.tuple h;obtain⟨its',r',⟨o',e',_,n',d'⟩,_⟩:=I.tuple h';rw[e]at e';cases e';rw[d]at d'
 injection d' with d1 _
 have:its=its':=by simpa using congrArg Array.toList d1
 subst this;exact r.inj r'
end
abbrev Cx.wish(X:Cx)(E:Value->Shared->Prop):Cx:={ X with xe:=E }
abbrev Cx.nox(X:Cx):Cx:=X.wish fun _ _=>False
theorem Cx.Ok.wish{X:Cx}(ok:X.Ok)(E:Value->Shared->Prop):(X.wish E).Ok :=
 ⟨ok.mod,ok.kind,ok.glob,ok.blt,ok.above,ok.inj,ok.has,ok.cab,ok.hd,ok.frames,ok.stk,ok.exf,ok.bs,ok.bsz,ok.noex,ok.exfs,ok.funs,ok.frf⟩
theorem Cx.Ok.unwish{X:Cx}{E:Value->Shared->Prop}(ok:(X.wish E).Ok):X.Ok :=
 ⟨ok.mod,ok.kind,ok.glob,ok.blt,ok.above,ok.inj,ok.has,ok.cab,ok.hd,ok.frames,ok.stk,ok.exf,ok.bs,ok.bsz,ok.noex,ok.exfs,ok.funs,ok.frf⟩
section
variable{X:Cx}{pins:List (Addr×Obj)}{σ:St}{H:Hp}{s:Shared}{E:Value->Shared->Prop}
theorem Inv.wish(I:Inv X pins σ H s)(E:Value->Shared->Prop):Inv (X.wish E) pins σ H s:=⟨I.ok.wish E,I.os,I.bare,I.base,I.loc,I.cell,I.free,I.freeC,I.pin,I.hok,I.len⟩
theorem Inv.unwish(I:Inv (X.wish E) pins σ H s):Inv X pins σ H s:=⟨I.ok.unwish,I.os,I.bare,I.base,I.loc,I.cell,I.free,I.freeC,I.pin,I.hok,I.len⟩
end
section
variable{X:Cx}{st:Stmt}{rest:List Stmt}{t u:TS}{e:Expr}{te:TE}{pos:Pos}
def Nm:TS:=fun D σ H=>D.nx σ H
def FQ(t u:TS):TS:=fun D σ H=>t { D with nx:=u D } σ H
theorem aP:PSs X [] Nm:=fun _ _ σ H _ I h=>wpAny_execs_nil ⟨σ,H,I,h⟩
theorem ao(h1:PS X st t)(h2:PSs X rest u):PSs X (st::rest) (FQ t u):=by
 intro pins s σ H D I h;refine wpAny_execs_cons (thn (h1 pins s σ H { D with nx:=u D } I h) fun f s1 q=>?_);cases f with
 | next =>
  obtain⟨σ',H',I',q⟩:=q;exact h2 pins s1 σ' H' D I' q
 |ret v=>exact q
 |brk=>exact q
 |cont=>exact q
theorem aq(h1:PS X st t):PSs X [st] t:=by
 intro pins s σ H D I h;refine wpAny_execs_cons (thn (h1 pins s σ H D I h) fun f s1 q=>?_);cases f with
 |next=>exact wpAny_execs_nil q
 |ret v=>exact q
 |brk=>exact q
 |cont=>exact q
def Np:TS:=fun D σ H=>D.ct σ H
theorem xQ:PS X (.Continue pos) Np:=fun _ _ σ H _ I h=>wpAny_Continue ⟨σ,H,I,h⟩
theorem Inv.quiet{pins:List (Addr×Obj)}{σ:St}{H:Hp}{s:Shared}(I:Inv X pins σ H s):interactive X.env=false:=by simp[interactive,I.ok.kind]
def Nq(te:TE):TS:=fun D σ H=>te σ H fun _ H1=>D.nx σ H1
theorem bA(he:PE X e te)(hs:swapsWith e none pos.line X.env=pure false:=by rfl):PS X (.Expr e pos) (Nq te):=by
 intro pins s σ H D I h;exact wpAny_Expr_any (thn (he pins s σ H _ I h) fun v s1 ⟨x,H1,I1,r1,q1⟩=>⟨σ,H1,I1,q1⟩) I.quiet hs
def Ow(te:TE):TS:=fun D σ H=>te σ H D.rt
theorem aA(he:PE X e te):PS X (.Return (some e) pos) (Ow te):=by
 intro pins s σ H D I h;exact wpAny_Return_some (thn (he pins s σ H _ I h) fun v s1 ⟨x,H1,I1,r1,q1⟩=>⟨x,σ,H1,I1,r1,q1⟩)
def Nr:TS:=fun D _ H=>D.rt .non H
theorem JN:PS X (.Return none pos) Nr:=fun _ _ σ H _ I h=>wpAny_Return_none ⟨.non,σ,H,I,rfl,h⟩
def Ox(c:TT)(t u:TS):TS:=fun D σ H=>c σ H fun b H1=>if b=true then t D σ H1 else u D σ H1
theorem aV{c:Expr}{a b:List Stmt}{tc:TT}(hc:PT X c tc)(ha:PSs X a t)(hb:PSs X b u):PS X (.If c a b pos) (Ox tc t u):=by
 intro pins s σ H D I h;refine wpAny_If (thn (hc pins s σ H _ I h) fun d s1 ⟨H1,I1,q1⟩=>?_);cases d with
 |true=>exact ha pins s1 σ H1 D I1 q1
 |false=>exact hb pins s1 σ H1 D I1 q1
def Le:TS:=fun _ _ _=>False
theorem qy:PS X st Le:=fun _ _ _ _ _ _ h=>h.elim
end
abbrev TG:=V->St->Hp->(St->Hp->Prop)->Prop
abbrev TGs:=List V->St->Hp->(St->Hp->Prop)->Prop
def PG(X:Cx)(target:Expr)(t:TG):Prop :=
 ∀(pins:List (Addr×Obj))(s:Shared)(σ:St)(H:Hp)(v:V)(u:Value)(Q:St->Hp->Prop),Inv X pins σ H s->RelV v u->t v σ H Q ->
  wpAny (model X.prog X.w) X.A (assign target X.env u) (fun _ s'=>∃ σ' H',Inv X pins σ' H' s'/\Q σ' H') X.xe s
def PGs(X:Cx)(ts:List Expr)(t:TGs):Prop :=
 ∀(pins:List (Addr×Obj))(s:Shared)(σ:St)(H:Hp)(vs:List V)(us:List Value)(Q:St->Hp->Prop),Inv X pins σ H s->Vals vs us->t vs σ H Q ->
  wpAny (model X.prog X.w) X.A (assignInOrder ((assignEach ts X.env).map (·.2)) us) (fun _ s'=>∃ σ' H',Inv X pins σ' H' s'/\Q σ' H') X.xe s
abbrev TIp:=V->V->Hp->VK->Prop
def PIp(X:Cx)(op:Operator)(t:TIp):Prop :=
 ∀(pins:List (Addr×Obj))(s:Shared)(σ:St)(H:Hp)(x y:V)(v u:Value)(Q:VK),Inv X pins σ H s->RelV x v->RelV y u->t x y H Q ->
  wpAny (model X.prog X.w) X.A (inplaceOp op v u) (EP X pins σ Q) X.xe s
section
variable{X:Cx}{pos:Pos}
def lw(i:Nat):TG:=fun v σ H Q=>Q (σ.set i (some v)) H
theorem tG{i:Nat}{x:Str}(hN:X.N.Nodup)(hi:X.N[i]? = some x)(hx:Loc X.env.scope x)(hf:X.fn x=true\/X.env.scope.names.lookup x=some .local:=by first|exact .inl rfl|exact .inr rfl|assumption):PG X (.Name x pos) (lw i):=by
 intro pins s σ H v u Q I r h;exact wpAny_assign_Name (mV I hN hi hx r (fun s' I'=>⟨_,H,I',h⟩) hf)
def Oz:TGs:=fun vs σ H Q=>vs=[]/\Q σ H
def Nt(t:TG)(u:TGs):TGs:=fun vs σ H Q=>∃ v r,vs=v::r/\t v σ H fun σ' H'=>u r σ' H' Q
theorem dR:PGs X [] Oz:=by
 intro pins s σ H vs us Q I r h;obtain⟨e,h⟩:=h;subst e;cases r;exact assignInOrder_nil ⟨σ,H,I,h⟩
theorem bB{e:Expr}{es:List Expr}{t:TG}{u:TGs}(h1:PG X e t)(h2:PGs X es u)
  (hs:(assignEach (e::es) X.env).map (·.2)=assign e X.env::(assignEach es X.env).map (·.2):=by rfl):PGs X (e::es) (Nt t u):=by
 intro pins s σ H vs us Q I r h;obtain⟨v,vr,e1,h⟩:=h;subst e1;cases r with
 | cons r rr =>
  rw[hs];refine assignInOrder_cons (thn (h1 pins s σ H _ _ _ I r h) fun _ s1 ⟨σ1,H1,I1,q1⟩=>?_);exact h2 pins s1 σ1 H1 _ _ Q I1 rr q1
def Lf(K:W.Frag)(n:Nat)(t:TGs):TG:=fun v σ H Q=>∃ a xs,v = .ref a/\SqT K H a xs/\xs.length=n/\t xs σ H Q
theorem mz{es:List Expr}{k:Nat}{t:TGs}{n:Nat}(hc:X.calm=true)(h:PGs X es t)
  (hn:(assignEach es X.env).length=n:=by rfl) (hst:(assignEach es X.env).findIdx? (·.1)=none:=by rfl):PG X (.Tuple es k pos) (Lf X.K n t):=by
 intro pins s σ H v u Q I r hw;obtain⟨a,xs,e1,hq,hl,hw⟩:=hw;subst e1;cases r;obtain⟨its,rv,ht,hz⟩:=I.tuple hq;refine assign_Tuple_tuple (I.ok.hd hc) ht (by simp[hn,<- hl,rv.length]) hst fun h' hx=>?_
 have I1:Inv X pins σ H { s with heap:=h' }:=I.kept (t':=s.toks) fun b o e=>hx b o (Nat.ne_of_lt (Heap.lt_size e)) e
 exact h pins _ σ H xs _ Q I1 (by simpa using rv) hw
def Ac(te:TE)(g:TG):TS:=fun D σ H=>te σ H fun x H1=>g x σ H1 D.nx
theorem iM{i:Nat}{x:Str}{e:Expr}{te:TE}{pos':Pos}(hN:X.N.Nodup)(hi:X.N[i]? = some x)(hx:Loc X.env.scope x)(he:PE X e te)(hs:swapsWith e (some (.Name x pos')) pos.line X.env=pure false:=by rfl)(hf:X.fn x=true\/X.env.scope.names.lookup x=some .local:=by first|exact .inl rfl|exact .inr rfl|assumption):
  PS X (.Assign [.Name x pos'] e pos) (Ac te (lw i)):=by
 intro pins s σ H D I h;refine wpAny_Assign_Name (thn (he pins s σ H _ I h) fun v s1 ⟨y,H1,I1,r1,q1⟩=>?_) hs;exact mV I1 hN hi hx r1 (fun s2 I2=>⟨_,H1,I2,q1⟩) hf
def Lg(i:Nat)(te:TE)(ti:TIp):TS:=fun D σ H=>∃ x,σ[i]? = some (some x)/\te σ H fun y H1=>ti x y H1 fun z H2=>D.nx (σ.set i (some z)) H2
theorem Cj{i:Nat}{x:Str}{e:Expr}{te:TE}{op:Operator}{ti:TIp}{pos':Pos}(hN:X.N.Nodup)(hi:X.N[i]? = some x)(hx:Loc X.env.scope x)(he:PE X e te)(ho:PIp X op ti)(hf:X.fn x=true\/X.env.scope.names.lookup x=some .local:=by first|exact .inl rfl|exact .inr rfl|assumption):
  PS X (.AugAssign (.Name x pos') op e pos) (Lg i te ti):=by
 intro pins s σ H D I h;obtain⟨v,e1,h⟩:=h;obtain⟨m,hn,hl⟩:=I.loc;have vis:Vis X.env.scope x:=by rcases hx with k|k;exact .inl k;exact .inr (.inl k)
 obtain⟨u,r,l⟩:=hl i x v hi e1 vis;refine wpAny_AugAssign_Name ?_
 have go:wpAny (model X.prog X.w) X.A (eval e X.env) (fun w s₂=>wpAny (model X.prog X.w) X.A (inplaceOp op u w) (fun r s₃=>wpAny (model X.prog X.w) X.A (storeName X.env x r) (fun _=>SP X pins D .next) X.xe s₃) X.xe s₂) X.xe s:=by
  refine thn (he pins s σ H _ I h) fun w s1 ⟨y,H1,I1,r1,q1⟩=>?_
  refine thn (ho pins s1 σ H1 v y u w _ I1 r r1 q1) fun z s2 ⟨zv,H2,I2,r2,q2⟩=>?_
  exact mV I2 hN hi hx r2 (fun s3 I3=>⟨_,H2,I3,q2⟩) hf
 rcases l with⟨hk,hm⟩|⟨hk,c,hc,hcell⟩
 . exact wpAny_loadName_local I.ok.kind hk hn hm go
 . rcases hk with hk|hk
   . exact wpAny_loadName_cell I.ok.kind hk hc hcell go
   . rcases hx with k|k
     . have:X.env.scope.names.lookup x=some .free:=hk
       rw[k]at this;cases this
     . have:X.env.scope.names.lookup x=some .free:=hk
       rw[k]at this;cases this
def ipI(f:Int->Int->Int):TIp:=fun x y H Q=>∃ i j,x = .int i/\y = .int j/\Q (.int (f i j)) H
theorem Lh:PIp X .Add (ipI fun i j=>i+j):=by
 intro pins s σ H x y v u Q I r1 r2 h;obtain⟨i,j,e1,e2,q⟩:=h;subst e1;subst e2;obtain⟨t,rfl⟩:=r1;obtain⟨t',rfl⟩:=r2;exact iadd_int ⟨.int _,H,I.tok _,⟨_,rfl⟩,q⟩
end
section
variable{X:Cx}{pos:Pos}
def Li(c:TT)(tb:TS):TS:=fun D σ H=>∃ W:Nat->St->Hp->Prop,(∃ m,W m σ H)/\∀ m σ H,W m σ H ->
 c σ H fun b H1=>if b=true then ∃ N:St->Hp->Prop,(∀ σ' H',N σ' H'->∃ m',m'<m/\W m' σ' H')/\tb { D with nx:=N,ct:=N,bk:=D.nx } σ H1 else D.nx σ H1
theorem j8{c:Expr}{body:List Stmt}{tc:TT}{tb:TS}(hp:PassesOwn (model X.prog X.w) X.A X.env X.xe)(hc:PT X c tc)(hb:PSs X body tb):PS X (.While c body [] pos) (Li tc tb):=by
 intro pins s σ H D I h;obtain⟨W,⟨m0,w0⟩,turn⟩:=h;refine wpAny_While (codeAny_whileLoop (fun n s'=>∃ σ' H',Inv X pins σ' H' s'/\W n σ' H') ?_ m0 ⟨σ,H,I,w0⟩);rintro n s1 ⟨σ1,H1,I1,w1⟩;refine wpAny_passesOwn hp (thn (hc pins s1 σ1 H1 _ I1 (turn n σ1 H1 w1)) fun b s2 ⟨H2,I2,q2⟩=>?_);cases b with
 | true =>
  obtain⟨N,hN,q2⟩:=q2;rw[qp rfl];refine wpAny_passesOwn hp (thn (hb pins s2 σ1 H2 _ I2 q2) fun f s3 q3=>?_);cases f with
  | next =>
   obtain⟨σ3,H3,I3,n3⟩:=q3;obtain⟨m',hm,w3⟩:=hN σ3 H3 n3;exact⟨m',hm,σ3,H3,I3,w3⟩
  | cont =>
   obtain⟨σ3,H3,I3,n3⟩:=q3;obtain⟨m',hm,w3⟩:=hN σ3 H3 n3;exact⟨m',hm,σ3,H3,I3,w3⟩
  |brk=>exact q3
  |ret v=>exact q3
 | false =>
  rw[qnZ qbf];exact wpAny_execs_nil ⟨σ1,H2,I2,q2⟩
end
structure It where
 go:Nat->Hp->Prop
 yld:Nat->Hp->V->Hp->Prop
 stop:Nat->Hp->Prop
def jg(X:Cx)(pins:List (Addr×Obj))(H:Hp)(b:Addr):Prop :=
 H b=none/\b≠X.env.locals/\b∉X.fs/\(b∈X.ex\/X.s₀.heap.objs.size<=b)/\(∀ x c,X.env.cells.lookup x=some c->c≠b)/\∀ p∈X.pn++pins,p.1≠b
theorem Inv.fpOk{X:Cx}{pins:List (Addr×Obj)}{σ:St}{H H':Hp}{s:Shared}{b:Addr}(I:Inv X pins σ H s)(hb:s.heap.objs.size<=b)(hn:H' b=none):jg X pins H' b:=by
 refine⟨hn,Nat.ne_of_gt (Nat.lt_of_lt_of_le I.lt hb),I.nofs hb,.inr (qnt I.sz hb),fun x c e z=>?_,fun p hp z=>?_⟩
 . obtain⟨v,q⟩:=I.cell x c e
   exact absurd (Nat.lt_of_lt_of_le q.lt (by rw[z];exact hb)) (Nat.lt_irrefl _)
 . exact absurd (Nat.lt_of_lt_of_le (Heap.lt_size (I.pin p hp).1) (by rw[z];exact hb)) (Nat.lt_irrefl _)
structure Turn(P:Program)(w:World)(K:W.Frag)(tg:Expr)(J:It)(fp:List Addr)(it:Addr)(tn:Nat->Heap->Prop):Prop where
 mem:it∈fp
 obj:∀ i h,tn i h->∀ b∈fp,∃ o,h.get? b=some o/\∀ v,o.data≠.cell v
 keep:∀ i h h',tn i h->(∀ b∈fp,∀ o,h.get? b=some o->h'.get? b=some o)->tn i h'
 item:∀(X:Cx),X.prog=P->X.w=w->X.K=K->X.calm=true->∀(i:Nat)(pins:List (Addr×Obj))(s:Shared)(σ:St)(H:Hp)(E:Value->Shared->Prop),Inv X pins σ H s->(∀ b∈fp,jg X pins H b)->tn i s.heap->J.go i H ->
  wpAny (model P w) X.A (pyNext (.ref it)) (fun r s1=>∃ u,r=some u /\
   wpAny (model P w) X.A (letOwnedTupleGo tg (.ref it) u) (fun _ s2=>∃ x H',Inv X pins σ H' s2/\RelV x u/\J.yld i H x H'/\tn (i+1) s2.heap/\∀ b∈fp,H' b=none) E s1) E s
 done:∀(X:Cx),X.prog=P->X.w=w->X.K=K->X.calm=true->∀(i:Nat)(pins:List (Addr×Obj))(s:Shared)(σ:St)(H:Hp)(E:Value->Shared->Prop),Inv X pins σ H s->(∀ b∈fp,jg X pins H b)->tn i s.heap->J.stop i H ->
  wpAny (model P w) X.A (pyNext (.ref it)) (fun r s1=>r=none/\Inv X pins σ H s1) E s
 self:∀(A:Around)(i:Nat)(s:Shared)(Q:Value->Shared->Prop)(E:Value->Shared->Prop),tn i s.heap->Q (.ref it) s->wpAny (model P w) A (pyIter (.ref it)) Q E s
abbrev TI:=St->Hp->(It->Hp->Prop)->Prop
def PIE(X:Cx)(pins:List (Addr×Obj))(σ:St)(tg:Expr)(R:It->Hp->Prop)(itv:Value)(s2:Shared):Prop :=
 ∃(it:Addr)(fp:List Addr)(tn:Nat->Heap->Prop)(J:It)(H':Hp),itv = .ref it/\Inv X pins σ H' s2/\Turn X.prog X.w X.K tg J fp it tn/\tn 0 s2.heap/\(∀ b∈fp,jg X pins H' b)/\R J H'
def PI(X:Cx)(tg iter:Expr)(wi:TI):Prop :=
 ∀(pins:List (Addr×Obj))(s:Shared)(σ:St)(H:Hp)(R:It->Hp->Prop),Inv X pins σ H s->wi σ H R ->
  wpAny (model X.prog X.w) X.A (eval iter X.env) (fun v s1=>wpAny (model X.prog X.w) X.A (pyIter v) (PIE X pins σ tg R) X.xe s1) X.xe s
theorem vG{M:Model}{A:Around}{E:Value->Shared->Prop}{s:Shared}{tg:Expr}{it:Addr}{u:Value}{o:Obj}{n:String}{vs:Array Value}{Q:Unit->Shared->Prop}(ho:s.heap.get? it=some o)(hc:o.cls = .type n)(hd:o.data = .fields vs)
  (hn:["enumerate","zip","dict_itemiterator","dict_reverseitemiterator","odict_iterator","itertools.zip_longest","itertools.pairwise"].contains n=false) (hQ:Q () s):wpAny M A (letOwnedTupleGo tg (.ref it) u) Q E s:=by
 unfold letOwnedTupleGo
 cases tg <;> first
  |exact wpAny_pure hQ
  | (cases u <;> first
    |exact wpAny_pure hQ
    | (refine wpAny_bind (wpAny_load ho ?_)
       rw[hc,hd];show wpAny M A (if (["enumerate","zip","dict_itemiterator","dict_reverseitemiterator","odict_iterator","itertools.zip_longest","itertools.pairwise"].contains n && vs[0]? == some (rawInt _))=true then _ else _) Q E s;rw[qnZ (by intro h;rw[hn,Bool.false_and]at h;cases h)]
       exact wpAny_pure hQ))
def Itl(K:W.Frag)(a:Addr):It :=
 ⟨fun i H=>∃ xs x,SqL K H a xs/\xs[i]? = some x,fun i H x H'=>H'=H/\∀ xs,SqL K H a xs->xs[i]? = some x,fun i H=>∃ xs,SqL K H a xs/\xs.length<=i⟩
def Itt(K:W.Frag)(a:Addr):It :=
 ⟨fun i H=>∃ xs x,SqT K H a xs/\xs[i]? = some x,fun i H x H'=>H'=H/\∀ xs,SqT K H a xs->xs[i]? = some x,fun i H=>∃ xs,SqT K H a xs/\xs.length<=i⟩
def Itr(lo:Int)(n:Nat):It:=⟨fun i _=>i<n,fun i H x H'=>H'=H/\x = .int (lo+i),fun i _=>n<=i⟩
theorem Ck{P:Program}{w:World}{K:W.Frag}{tg:Expr}(a it:Addr):Turn P w K tg (Itl K a) [it] it (fun i h=>h.IsListIter it a i) where
 mem:=by simp
 obj:=fun i h st b hb=>by
  have e:b=it:=by simpa using hb
  subst e;obtain⟨o,e,c,d⟩:=st;exact⟨o,e,fun v z=>by rw[d]at z;cases z⟩
 keep:=fun i h h' st k=>st.at fun o e=>k it (by simp) o e
 item:=by
  intro X hP hw hK hc i pins s σ H E I hf st hg;subst hP hw hK;obtain⟨xs,x,hq,hx⟩:=hg;obtain⟨its,rv,p,hz⟩:=I.list hq;obtain⟨u,hu,ru⟩:=rv.get hx;obtain⟨f0,f1,f2,f3,f4,f5⟩:=hf it (by simp);refine wpAny_pyNext_list_item st p.isList (x:=u) (by simpa using hu) fun h' st' sb=>?_
  have I1:Inv X pins σ H { s with heap:=h' }:=I.turned (t':=s.toks) (fun b o hb e=>(sb.2 b hb).trans e) f0 f1 f3 f4 f5;obtain⟨o,e,c,d⟩:=id st';exact⟨u,rfl,vG (s:={ s with heap:=h' }) e c d (by decide) ⟨x,H,I1,ru,⟨rfl,fun ys hy=>by rw[I.list_inj hy hq];exact hx⟩,st',fun b hb=>(hf b hb).1⟩⟩
 done:=by
  intro X hP hw hK hc i pins s σ H E I hf st hg;subst hP hw hK;obtain⟨xs,hq,hx⟩:=hg;obtain⟨its,rv,p,hz⟩:=I.list hq;obtain⟨f0,f1,f2,f3,f4,f5⟩:=hf it (by simp);have hl:=rv.length;exact wpAny_pyNext_list_end (I.ok.hd hc) st p.isList (by simp;omega) fun h' eb=>⟨rfl,I.turned (t':=s.toks) (fun b o hb e=>eb b o hb e) f0 f1 f3 f4 f5⟩
 self:=fun _ _ _ _ _ st h=>wpAny_pyIter_listiter st h
theorem Ad{P:Program}{w:World}{K:W.Frag}{tg:Expr}(a it:Addr):Turn P w K tg (Itt K a) [it] it (fun i h=>h.IsTupleIter it a i) where
 mem:=by simp
 obj:=fun i h st b hb=>by
  have e:b=it:=by simpa using hb
  subst e;obtain⟨o,e,c,d⟩:=st;exact⟨o,e,fun v z=>by rw[d]at z;cases z⟩
 keep:=fun i h h' st k=>st.at fun o e=>k it (by simp) o e
 item:=by
  intro X hP hw hK hc i pins s σ H E I hf st hg;subst hP hw hK;obtain⟨xs,x,hq,hx⟩:=hg;obtain⟨its,rv,p,hz⟩:=I.tuple hq;obtain⟨u,hu,ru⟩:=rv.get hx;obtain⟨f0,f1,f2,f3,f4,f5⟩:=hf it (by simp);refine wpAny_pyNext_tuple_item st (show s.heap.IsTuple a its.toArray from p) (x:=u) (by simpa using hu) fun h' st' sb=>?_
  have I1:Inv X pins σ H { s with heap:=h' }:=I.turned (t':=s.toks) (fun b o hb e=>(sb.2 b hb).trans e) f0 f1 f3 f4 f5;obtain⟨o,e,c,d⟩:=id st';exact⟨u,rfl,vG (s:={ s with heap:=h' }) e c d (by decide) ⟨x,H,I1,ru,⟨rfl,fun ys hy=>by rw[I.tuple_inj hy hq];exact hx⟩,st',fun b hb=>(hf b hb).1⟩⟩
 done:=by
  intro X hP hw hK hc i pins s σ H E I hf st hg;subst hP hw hK;obtain⟨xs,hq,hx⟩:=hg;obtain⟨its,rv,p,hz⟩:=I.tuple hq;obtain⟨f0,f1,f2,f3,f4,f5⟩:=hf it (by simp);have hl:=rv.length;exact wpAny_pyNext_tuple_end (I.ok.hd hc) st (show s.heap.IsTuple a its.toArray from p) (by simp;omega) fun h' eb=>⟨rfl,I.turned (t':=s.toks) (fun b o hb e=>eb b o hb e) f0 f1 f3 f4 f5⟩
 self:=fun _ _ _ _ _ st h=>wpAny_pyIter_tupleiter st h
theorem Ae{P:Program}{w:World}{K:W.Frag}{tg:Expr}(it:Addr)(lo:Int)(n:Nat):Turn P w K tg (Itr lo n) [it] it (fun i h=>IsRangeIter h it (lo+(i:Nat) * 1) ((n:Int) - (i:Nat)) 1) where
 mem:=by simp
 obj := fun i h st b hb=>by
  have e:b=it:=by simpa using hb
  subst e
  exact⟨_,st,fun v z=>by
   have z':Data.fields _=Data.cell v:=z
   cases z'⟩
 keep:=fun i h h' st k=>k it (by simp) _ st
 item:=by
  intro X hP hw hK hc i pins s σ H E I hf st hg;subst hP hw hK;obtain⟨f0,f1,f2,f3,f4,f5⟩:=hf it (by simp);have W:=Walks.range (prog:=X.prog) (w:=X.w) (I.ok.hd hc) it lo 1 n;refine W.item i s _ _ hg st fun v h' tk hv st' kk=>?_
  obtain⟨t,rfl⟩:=hv;have I1:Inv X pins σ H { s with heap:=h',toks:=tk }:=I.turned (fun b o hb e=>kk b o (by simpa using hb) e) f0 f1 f3 f4 f5;refine⟨_,rfl,vG (s:={ s with heap:=h',toks:=tk }) (n := "range_iterator") st' rfl rfl (by decide) ⟨.int (lo+i),H,I1,⟨t,?_⟩,⟨rfl,rfl⟩,st',fun b hb=>(hf b hb).1⟩⟩;rw[Int.mul_one]
 done:=by
  intro X hP hw hK hc i pins s σ H E I hf st hg;subst hP hw hK;obtain⟨f0,f1,f2,f3,f4,f5⟩:=hf it (by simp);exact wpAny_pyNext_range_end (I.ok.hd hc) st (by have:n<=i:=hg;omega) fun h' eb=>⟨rfl,I.turned (t':=s.toks) (fun b o hb e=>eb b o hb e) f0 f1 f3 f4 f5⟩
 self:=fun _ _ _ _ _ st h=>wpAny_pyIter_rangeiter st h
end L2
namespace L2
open PySem PySem.Spec PyProof.Rows
section
variable{X:Cx}{tg:Expr}
def Nu(K:W.Frag)(tl:TE):TI:=fun σ H R=>tl σ H fun x H1=>∃ a,x = .ref a/\(∃ xs,SqL K H1 a xs)/\R (Itl K a) H1
def OD(K:W.Frag)(tl:TE):TI:=fun σ H R=>tl σ H fun x H1=>∃ a,x = .ref a/\(∃ xs,SqT K H1 a xs)/\R (Itt K a) H1
theorem cZ{l:Expr}{tl:TE}(hl:PE X l tl):PI X tg l (Nu X.K tl):=by
 intro pins s σ H R I h;refine thn (hl pins s σ H _ I h) fun v s1 ⟨x,H1,I1,r1,q1⟩=>?_
 obtain⟨a,e,⟨xs,hq⟩,q⟩:=q1;subst e;cases r1;obtain⟨its,rv,p,hz⟩:=I1.list hq;refine wpAny_pyIter_list p.isList ?_;refine⟨s1.heap.objs.size,[s1.heap.objs.size],_,_,H1,rfl,I1.kept (t':=s1.toks) fun b o e=>Heap.get?_push_of_some _ e,Ck a _,⟨_,Heap.get?_push_size _ rfl,rfl,rfl⟩,fun b hb=>?_,q⟩;have e:b=s1.heap.objs.size:=by simpa using hb
 subst e;exact I1.fpOk (qnr _) (I1.hok.fresh (qnr _))
theorem Lj{l:Expr}{tl:TE}(hl:PE X l tl):PI X tg l (OD X.K tl):=by
 intro pins s σ H R I h;refine thn (hl pins s σ H _ I h) fun v s1 ⟨x,H1,I1,r1,q1⟩=>?_
 obtain⟨a,e,⟨xs,hq⟩,q⟩:=q1;subst e;cases r1;obtain⟨its,rv,p,hz⟩:=I1.tuple hq;refine wpAny_pyIter_tuple (show s1.heap.IsTuple a its.toArray from p) ?_;refine⟨s1.heap.objs.size,[s1.heap.objs.size],_,_,H1,rfl,I1.kept (t':=s1.toks) fun b o e=>Heap.get?_push_of_some _ e,Ad a _,⟨_,Heap.get?_push_size _ rfl,rfl,rfl⟩,fun b hb=>?_,q⟩;have e:b=s1.heap.objs.size:=by simpa using hb
 subst e;exact I1.fpOk (qnr _) (I1.hok.fresh (qnr _))
theorem FT{pins:List (Addr×Obj)}{σ:St}{H:Hp}{s:Shared}{R:It->Hp->Prop}{E:Value->Shared->Prop}{lo hi:Int}{t u v:Tok}{tk:Nat}(I:Inv X pins σ H s)(h1 : -(2 ^ 62)<=lo)(h2:lo<2 ^ 62)(h3 : -(2 ^ 62)<=hi)(h4:hi<2 ^ 62)
  (q:R (Itr lo (hi - lo).toNat) H):wpAny (model X.prog X.w) X.A (pyIter (.ref s.heap.objs.size)) (PIE X pins σ tg R) E { s with heap:=s.heap.push { cls:=.type "range",data:=.fields #[.int lo t,.int hi u,.int 1 v] },toks:=tk }:=by
 refine wpAny_pyIter_range (IsRange.new ..) (small_one h1 h2 h3 h4) ?_;have I1:Inv X pins σ H { s with heap:=s.heap.push { cls:=.type "range",data:=.fields #[.int lo t,.int hi u,.int 1 v] },toks:=tk }:=I.kept fun b o e=>Heap.get?_push_of_some _ e
 refine⟨(s.heap.push { cls:=.type "range",data:=.fields #[.int lo t,.int hi u,.int 1 v] }).objs.size,[(s.heap.push { cls:=.type "range",data:=.fields #[.int lo t,.int hi u,.int 1 v] }).objs.size],_,_,H,rfl,
  I1.kept (t':=tk) fun b o e=>Heap.get?_push_of_some _ e,Ae _ lo (hi - lo).toNat,?_,fun b hb=>?_,q⟩
 . have e1:lo+((0:Nat):Int) * 1=lo:=by simp
   have e2:(((hi - lo).toNat:Nat):Int) - ((0:Nat):Int)=Builtin.Range.rangeSize lo hi 1:=by rw[rangeSize_one];split <;> omega
   show IsRangeIter _ _ (lo+((0:Nat):Int) * 1) ((((hi - lo).toNat:Nat):Int) - ((0:Nat):Int)) 1;rw[e1,e2];exact Heap.get?_push_size _ rfl
 . have e:b=(s.heap.push { cls:=.type "range",data:=.fields #[.int lo t,.int hi u,.int 1 v] }).objs.size:=by simpa using hb
   subst e;exact I1.fpOk (qnr _) (I1.hok.fresh (qnr _))
def Je(ta:TA):TI:=fun σ H R=>ta σ H fun vs H1=>∃ j:Int,vs=[.int j]/\-(2 ^ 62)<=j/\j<2 ^ 62/\R (Itr 0 j.toNat) H1
theorem Cm {a:Expr} {ta:TA} {p pos:Pos} (hg:Gl X "range") (hm:X.mg "range"=none) (ha:PA X [a] ta) (hs:starEach [a] X.env=[(false,eval a X.env)]:=by rfl):PI X tg (.Call (.Name "range" p) [a] [] pos) (Je ta):=by
 intro pins s σ H R I h;refine Call_ (j7 I hg hm boot_range (PyProof.Rows.callWith_type1 (thn (ha pos pins s σ H _ I h) fun us s1 ⟨vs,H1,I1,r1,q1⟩=>?_) hs rfl));obtain⟨j,e,q1,q2,q⟩:=q1;subst e;cases r1 with
 | cons r rr =>
  cases rr;obtain⟨t,rfl⟩:=r;exact call_range_1 (FT I1 (by omega) (by omega) q1 q2 (by simpa using q))
def OJ(wi:TI)(g:TG)(tb:TS):TS:=fun D σ H=>wi σ H fun J H1=>∃ W:Nat->Nat->St->Hp->Prop,(∃ m,W 0 m σ H1)/\∀ i m σ H,W i m σ H ->
 (J.stop i H/\D.nx σ H)\/(J.go i H/\∃ N:St->Hp->Prop,(∀ σ' H',N σ' H'->∃ m',m'<m/\W (i+1) m' σ' H')/\∀ x H',J.yld i H x H'->g x σ H' fun σ2 H2=>tb { D with nx:=N,ct:=N,bk:=D.nx } σ2 H2)
def j9(fp:List Addr)(h:Heap):List (Addr×Obj):=fp.filterMap fun b=>(h.get? b).map fun o=>(b,o)
theorem jQ{fp:List Addr}{h:Heap}{b:Addr}{o:Obj}(hb:b∈fp)(e:h.get? b=some o):(b,o)∈j9 fp h:=List.mem_filterMap.mpr ⟨b,hb,by rw[e];rfl⟩
theorem uv{fp:List Addr}{h:Heap}{p:Addr×Obj}(hp:p∈j9 fp h):p.1∈fp/\h.get? p.1=some p.2:=by
 obtain⟨b,hb,e⟩:=List.mem_filterMap.mp hp;cases q:h.get? b with
 |none=>rw[q]at e;cases e
 | some o =>
  rw[q]at e;have e':(b,o)=p:=qsi e;subst e';exact⟨hb,q⟩
theorem Inv.pinned{pins:List (Addr×Obj)}{σ:St}{H:Hp}{s:Shared}{fp:List Addr}(I:Inv X pins σ H s)(hf:∀ b∈fp,jg X pins H b)(ho:∀ b∈fp,∃ o,s.heap.get? b=some o/\∀ v,o.data≠.cell v):Inv X (pins++j9 fp s.heap) σ H s :=
 I.pins_of fun p hp=>(List.mem_append.mp hp).elim (fun z=>I.pin p (qar _ z)) fun z=>by
  obtain⟨hb,e⟩:=uv z;obtain⟨f0,f1,f2,_⟩:=hf p.1 hb;obtain⟨o,e',d⟩:=ho p.1 hb;rw[e]at e';cases e';exact⟨e,f0,f1,f2,d⟩
theorem Inv.unpinned{pins pl:List (Addr×Obj)}{σ:St}{H:Hp}{s:Shared}(I:Inv X (pins++pl) σ H s):Inv X pins σ H s:=I.pins_of fun p hp=>I.pin p (qar _ (qal _ hp))
theorem dU{iter:Expr}{body:List Stmt}{wi:TI}{g:TG}{tb:TS}{pos:Pos}(hp:PassesOwn (model X.prog X.w) X.A X.env X.xe)(hc:X.calm=true)(hi:PI X tg iter wi)(hg:PG X tg g)(hb:PSs X body tb)
  (hs:∀ x,foldedSetIterable iter X.env x=pure x:=by intro _;rfl):PS X (.For tg iter body [] pos) (OJ wi g tb):=by
 intro pins s σ H D I h;refine wpAny_For (thn (hi pins s σ H _ I h) fun v s1 h1=>thn h1 fun itv s2 h2=>?_) hs;obtain⟨it,fp,tn,J,H2,e,I2,T,st2,f2,W,⟨m0,w0⟩,turn⟩:=h2;subst e;have stat:∀{H':Hp},(∀ b∈fp,H' b=none)->∀ b∈fp,jg X pins H' b:=fun hn b hb=>⟨hn b hb,(f2 b hb).2⟩
 refine codeAny_forLoop_any (fun n s'=>∃ i σ' H',Inv X pins σ' H' s'/\tn i s'.heap/\(∀ b∈fp,H' b=none)/\W i n σ' H') ?_ m0 ⟨0,σ,H2,I2,st2,fun b hb=>(f2 b hb).1,w0⟩;rintro n s3 ⟨i,σ3,H3,I3,st3,fr3,w3⟩;rcases turn i n σ3 H3 w3 with⟨stop,qn⟩|⟨go,N,hN,step⟩
 . refine wpAny_passesOwn hp (thn (T.done X rfl rfl rfl hc i pins s3 σ3 H3 X.xe I3 (stat fr3) st3 stop) fun r s4 ⟨hr,I4⟩=>?_)
   subst hr;exact wpAny_execs_nil ⟨σ3,H3,I4,qn⟩
 . refine wpAny_passesOwn hp (thn (T.item X rfl rfl rfl hc i pins s3 σ3 H3 X.xe I3 (stat fr3) st3 go) fun r s4 ⟨u,hr,h4⟩=>?_)
   subst hr;refine wpAny_passesOwn hp (thn h4 fun _ s5 ⟨x,H5,I5,r5,y5,st5,fr5⟩=>?_);have I5':=I5.pinned (stat fr5) (T.obj _ _ st5);refine wpAny_passesOwn hp (thn (hg _ s5 σ3 H5 x u _ I5' r5 (step x H5 y5)) fun _ s6 ⟨σ6,H6,I6,q6⟩=>?_);refine wpAny_passesOwn hp (thn (hb _ s6 σ6 H6 _ I6 q6) fun f s7 q7=>?_)
   have again:∀{σ7:St}{H7:Hp},Inv X (pins++j9 fp s5.heap) σ7 H7 s7->N σ7 H7->∃ m,m<n/\∃ i σ' H',Inv X pins σ' H' s7/\tn i s7.heap/\(∀ b∈fp,H' b=none)/\W i m σ' H':=fun {σ7 H7} I7 n7=>by
    obtain⟨m',hm,w7⟩:=hN σ7 H7 n7;refine⟨m',hm,i+1,σ7,H7,I7.unpinned,T.keep _ _ _ st5 fun b hb o e=>(I7.pin (b,o) (qar _ (qar _ (jQ hb e)))).1,fun b hb=>?_,w7⟩;obtain⟨o,e,d⟩:=T.obj _ _ st5 b hb;exact(I7.pin (b,o) (qar _ (qar _ (jQ hb e)))).2.1
   cases f with
   |next=>obtain⟨σ7,H7,I7,n7⟩:=q7;exact again I7 n7
   |cont=>obtain⟨σ7,H7,I7,n7⟩:=q7;exact again I7 n7
   |brk=>obtain⟨σ7,H7,I7,q7⟩:=q7;exact⟨σ7,H7,I7.unpinned,q7⟩
   |ret v=>obtain⟨x7,σ7,H7,I7,r7,q7⟩:=q7;exact⟨x7,σ7,H7,I7.unpinned,r7,q7⟩
end
theorem gw{K:W.Frag}{a:Addr}{xs:List V}{g:TG}{tb:TS}{D:Ends}{σ:St}{H:Hp}(Pv:Nat->St->Hp->Prop)(h0:Pv 0 σ H)(hl:∀ i σ H,i<=xs.length->Pv i σ H->SqL K H a xs)
  (hs:∀ i x σ H,xs[i]? = some x->Pv i σ H->g x σ H fun σ2 H2=>tb { D with nx:=Pv (i+1),ct:=Pv (i+1),bk:=D.nx } σ2 H2) (hd:∀ σ H,Pv xs.length σ H->D.nx σ H):
  ∃ W:Nat->Nat->St->Hp->Prop,(∃ m,W 0 m σ H)/\∀ i m σ H,W i m σ H ->
   ((Itl K a).stop i H/\D.nx σ H)\/((Itl K a).go i H/\∃ N:St->Hp->Prop,(∀ σ' H',N σ' H'->∃ m',m'<m/\W (i+1) m' σ' H')/\∀ x H',(Itl K a).yld i H x H'->g x σ H' fun σ2 H2=>tb { D with nx:=N,ct:=N,bk:=D.nx } σ2 H2):=by
 refine⟨fun i m σ H=>m=xs.length - i/\i<=xs.length/\Pv i σ H,⟨xs.length,by simp,qnz _,h0⟩,?_⟩;rintro i m σ H ⟨rfl,hi,p⟩;have q:=hl i σ H hi p
 by_cases hlt:i<xs.length
 . refine .inr ⟨⟨xs,xs[i],q,by simp[hlt]⟩,Pv (i+1),fun σ' H' p'=>⟨xs.length - (i+1),by omega,rfl,hlt,p'⟩,fun x H' y=>?_⟩
   obtain⟨e,y⟩:=y;subst e;exact hs i x σ _ (y xs q) p
 . have e:i=xs.length:=by omega
   subst e;exact .inl ⟨⟨xs,q,qnr _⟩,hd σ H p⟩
theorem JP{K:W.Frag}{a:Addr}{xs:List V}{g:TG}{tb:TS}{D:Ends}{σ:St}{H:Hp}(Pv:Nat->St->Hp->Prop)(h0:Pv 0 σ H)(hl:∀ i σ H,i<=xs.length->Pv i σ H->SqT K H a xs)
  (hs:∀ i x σ H,xs[i]? = some x->Pv i σ H->g x σ H fun σ2 H2=>tb { D with nx:=Pv (i+1),ct:=Pv (i+1),bk:=D.nx } σ2 H2) (hd:∀ σ H,Pv xs.length σ H->D.nx σ H):
  ∃ W:Nat->Nat->St->Hp->Prop,(∃ m,W 0 m σ H)/\∀ i m σ H,W i m σ H ->
   ((Itt K a).stop i H/\D.nx σ H)\/((Itt K a).go i H/\∃ N:St->Hp->Prop,(∀ σ' H',N σ' H'->∃ m',m'<m/\W (i+1) m' σ' H')/\∀ x H',(Itt K a).yld i H x H'->g x σ H' fun σ2 H2=>tb { D with nx:=N,ct:=N,bk:=D.nx } σ2 H2):=by
 refine⟨fun i m σ H=>m=xs.length - i/\i<=xs.length/\Pv i σ H,⟨xs.length,by simp,qnz _,h0⟩,?_⟩;rintro i m σ H ⟨rfl,hi,p⟩;have q:=hl i σ H hi p
 by_cases hlt:i<xs.length
 . refine .inr ⟨⟨xs,xs[i],q,by simp[hlt]⟩,Pv (i+1),fun σ' H' p'=>⟨xs.length - (i+1),by omega,rfl,hlt,p'⟩,fun x H' y=>?_⟩
   obtain⟨e,y⟩:=y;subst e;exact hs i x σ _ (y xs q) p
 . have e:i=xs.length:=by omega
   subst e;exact .inl ⟨⟨xs,q,qnr _⟩,hd σ H p⟩
theorem Cp{lo:Int}{n:Nat}{g:TG}{tb:TS}{D:Ends}{σ:St}{H:Hp}(Pv:Nat->St->Hp->Prop)(h0:Pv 0 σ H)
  (hs:∀ i σ H,i<n->Pv i σ H->g (.int (lo+i)) σ H fun σ2 H2=>tb { D with nx:=Pv (i+1),ct:=Pv (i+1),bk:=D.nx } σ2 H2) (hd:∀ σ H,Pv n σ H->D.nx σ H):
  ∃ W:Nat->Nat->St->Hp->Prop,(∃ m,W 0 m σ H)/\∀ i m σ H,W i m σ H ->
   ((Itr lo n).stop i H/\D.nx σ H)\/((Itr lo n).go i H/\∃ N:St->Hp->Prop,(∀ σ' H',N σ' H'->∃ m',m'<m/\W (i+1) m' σ' H')/\∀ x H',(Itr lo n).yld i H x H'->g x σ H' fun σ2 H2=>tb { D with nx:=N,ct:=N,bk:=D.nx } σ2 H2):=by
 refine⟨fun i m σ H=>m=n - i/\i<=n/\Pv i σ H,⟨n,by simp,qnz _,h0⟩,?_⟩;rintro i m σ H ⟨rfl,hi,p⟩
 by_cases hlt:i<n
 . refine .inr ⟨hlt,Pv (i+1),fun σ' H' p'=>⟨n - (i+1),by omega,rfl,hlt,p'⟩,fun x H' y=>?_⟩
   obtain⟨e,y⟩:=y;subst e y;exact hs i σ _ hlt p
 . have e:i=n:=by omega
   subst e;exact .inl ⟨qnr _,hd σ H p⟩
end L2
namespace L2
open PySem PySem.Spec PyProof.Rows
abbrev R2:=V->V->Hp->VK->Prop
def OpR(X:Cx)(f:Value->Value->Sem Value)(r:R2):Prop :=
 ∀(pins:List (Addr×Obj))(s:Shared)(σ:St)(H:Hp)(x y:V)(v u:Value)(Q:VK),Inv X pins σ H s->RelV x v->RelV y u->r x y H Q ->
  wpAny (model X.prog X.w) X.A (f v u) (EP X pins σ Q) X.xe s
def UnR(X:Cx)(f:Value->Sem Value)(r:V->Hp->VK->Prop):Prop :=
 ∀(pins:List (Addr×Obj))(s:Shared)(σ:St)(H:Hp)(x:V)(v:Value)(Q:VK),Inv X pins σ H s->RelV x v->r x H Q ->
  wpAny (model X.prog X.w) X.A (f v) (EP X pins σ Q) X.xe s
def eG(X:Cx)(f:Value)(r:List V->Hp->VK->Prop):Prop :=
 ∀(pins:List (Addr×Obj))(s:Shared)(σ:St)(H:Hp)(xs:List V)(us:List Value)(Q:VK),Inv X pins σ H s->Vals xs us->r xs H Q ->
  wpAny (model X.prog X.w) X.A (call f us) (EP X pins σ Q) X.xe s
def O1(X:Cx)(r:V->Hp->(Bool->Hp->Prop)->Prop):Prop :=
 ∀(pins:List (Addr×Obj))(s:Shared)(σ:St)(H:Hp)(x:V)(v:Value)(Q:Bool->Hp->Prop),Inv X pins σ H s->RelV x v->r x H Q ->
  wpAny (model X.prog X.w) X.A (truthy v) (TP X pins σ Q) X.xe s
def tOp(r:R2)(ta tb:TE):TE:=fun σ H Q=>ta σ H fun x H1=>tb σ H1 fun y H2=>r x y H2 Q
def tUn(r:V->Hp->VK->Prop)(ta:TE):TE:=fun σ H Q=>ta σ H fun x H1=>r x H1 Q
inductive rI(C:Int->Int->Prop)(g:Int->Int->V)(x:V)(y:V)(H:Hp)(Q:VK):Prop
 |mk (i j) (_:x = .int i) (_:y = .int j) (_:C i j) (_:Q (g i j) H)
inductive rI0(g:Int->Int->V)(x:V)(y:V)(H:Hp)(Q:VK):Prop
 |mk (i j) (_:x = .int i) (_:y = .int j) (_:Q (g i j) H)
def rU(g:Int->V):V->Hp->VK->Prop:=fun x H Q=>∃ i,x = .int i/\Q (g i) H
section
variable{X:Cx}{a b c:Expr}{ta tb tc:TE}{pos:Pos}
theorem FW(ha:PE X a ta)(hb:PE X b tb){pins:List (Addr×Obj)}{s:Shared}{σ:St}{H:Hp}{R:V->V->Hp->Prop}(I:Inv X pins σ H s)
  (h:ta σ H fun x H1=>tb σ H1 fun y H2=>R x y H2) {Q:Value->Shared->Prop} {f:Value->Value->Sem Value}
  (hf:∀ v u s2 x y H2,Inv X pins σ H2 s2->RelV x v->RelV y u->R x y H2->wpAny (model X.prog X.w) X.A (f v u) Q X.xe s2):
  wpAny (model X.prog X.w) X.A (eval a X.env) (fun v s₁=>wpAny (model X.prog X.w) X.A (eval b X.env) (fun u s₂=>wpAny (model X.prog X.w) X.A (f v u) Q X.xe s₂) X.xe s₁) X.xe s:=by
 refine thn (ha pins s σ H _ I h) fun v s1 ⟨x,H1,I1,r1,q1⟩=>?_
 refine thn (hb pins s1 σ H1 _ I1 q1) fun u s2 ⟨y,H2,I2,r2,q2⟩=>?_
 exact hf v u s2 x y H2 I2 r1 r2 q2
theorem aG{op:Operator}{r:R2}(ho:OpR X (binaryOp op) r)(ha:PE X a ta)(hb:PE X b tb):PE X (.BinOp a op b pos) (tOp r ta tb):=by
 intro pins s σ H Q I h;exact wpAny_BinOp (FW ha hb I h fun v u s2 x y H2 I2 rx ry q=>ho pins s2 σ H2 x y v u Q I2 rx ry q)
theorem lA{op:UnaryOp}{r:V->Hp->VK->Prop}(ho:UnR X (unaryOp op) r)(ha:PE X a ta):PE X (.UnaryOp op a pos) (tUn r ta):=by
 intro pins s σ H Q I h;exact UnaryOp_ (thn (ha pins s σ H _ I h) fun v s1 ⟨x,H1,I1,r1,q1⟩=>ho pins s1 σ H1 x v Q I1 r1 q1)
theorem opI{f:Value->Value->Sem Value}{C:Int->Int->Prop}{g:Int->Int->Int}
  (rule:∀(i j:Int)(t u:Tok)(s:Shared)(Q:Value->Shared->Prop)(E:Value->Shared->Prop),C i j->Q (.int (g i j) s.toks) { s with toks:=s.toks+1 }->wpAny (model X.prog X.w) X.A (f (.int i t) (.int j u)) Q E s):
  OpR X f (rI C fun i j=>.int (g i j)):=by
 intro pins s σ H x y v u Q I rx ry h;obtain⟨i,j,rfl,rfl,hc,q⟩:=h;obtain⟨t,rfl⟩:=rx;obtain⟨t',rfl⟩:=ry;exact rule i j t t' s _ _ hc ⟨.int (g i j),H,I.tok _,⟨_,rfl⟩,q⟩
theorem vX{f:Value->Value->Sem Value}{g:Int->Int->Int}
  (rule:∀(i j:Int)(t u:Tok)(s:Shared)(Q:Value->Shared->Prop)(E:Value->Shared->Prop),Q (.int (g i j) s.toks) { s with toks:=s.toks+1 }->wpAny (model X.prog X.w) X.A (f (.int i t) (.int j u)) Q E s):
  OpR X f (rI0 fun i j=>.int (g i j)):=by
 intro pins s σ H x y v u Q I rx ry h;obtain⟨i,j,rfl,rfl,q⟩:=h;obtain⟨t,rfl⟩:=rx;obtain⟨t',rfl⟩:=ry;exact rule i j t t' s _ _ ⟨.int (g i j),H,I.tok _,⟨_,rfl⟩,q⟩
theorem FZ{f:Value->Value->Sem Value}{g:Int->Int->Bool}
  (rule:∀(i j:Int)(t u:Tok)(s:Shared)(Q:Value->Shared->Prop)(E:Value->Shared->Prop),Q (.bool (g i j)) s->wpAny (model X.prog X.w) X.A (f (.int i t) (.int j u)) Q E s):
  OpR X f (rI0 fun i j=>.bl (g i j)):=by
 intro pins s σ H x y v u Q I rx ry h;obtain⟨i,j,rfl,rfl,q⟩:=h;obtain⟨t,rfl⟩:=rx;obtain⟨t',rfl⟩:=ry;exact rule i j t t' s _ _ ⟨.bl (g i j),H,I,rfl,q⟩
def O2(i j:Int):Prop:=0<j/\j<1073741824
def lU(i j:Int):Prop:=0<=j/\j<=1000000/\i.natAbs<2 ^ 64
def CMul(i j:Int):Prop:=(-(2 ^ 64)<i/\i<2 ^ 64)\/(-(2 ^ 64)<j/\j<2 ^ 64)
theorem CMul.ok{i j:Int}(h:CMul i j):IntMulOk i j:=by
 rcases h with⟨h1,h2⟩|⟨h1,h2⟩
 . exact .of_left (intBits_le_64 h1 h2)
 . exact .of_right (intBits_le_64 h1 h2)
theorem Af(k:Nat):(0:Int)<=2 ^ k:=by
 rw[two_pow_cast];exact Int.natCast_nonneg _
theorem eU:OpR X (binaryOp .Add) (rI0 fun i j=>.int (i+j)):=vX fun _ _ _ _ _ _ _ q=>add_int q
theorem dW:OpR X (binaryOp .Sub) (rI0 fun i j=>.int (i - j)):=vX fun _ _ _ _ _ _ _ q=>sub_int q
theorem gQ:OpR X (binaryOp .Mult) (rI CMul fun i j=>.int (i * j)):=opI fun _ _ _ _ _ _ _ hc q=>mul_int q hc.ok
theorem iz:OpR X (binaryOp .FloorDiv) (rI O2 fun i j=>.int (i / j)):=opI fun i j _ _ _ _ _ hc q=>by
 have h1:(0:Int)<j:=hc.1;have h2:j<1073741824:=hc.2;exact floordiv_int (by omega) (by rw[Int.fdiv_eq_ediv_of_nonneg i (by omega)];exact q) (.inl (PyProof.noPylong_small (by omega)))
theorem bU:OpR X (binaryOp .Mod) (rI (fun _ j=>0<j) fun i j=>.int (i % j)):=opI fun i j _ _ _ _ _ hc q=>by
 have h1:(0:Int)<j:=hc;exact mod_int' (by omega) (by rw[Int.fmod_eq_emod_of_nonneg i (by omega)];exact q)
theorem vY:OpR X (binaryOp .Pow) (rI lU fun i j=>.int (i ^ j.toNat)):=opI fun _ _ _ _ _ _ _ hc q=>pow_int_small hc.1 hc.2.1 hc.2.2 q
theorem eV:OpR X (binaryOp .LShift) (rI lU fun i j=>.int (i * 2 ^ j.toNat)):=opI fun _ _ _ _ _ _ _ hc q=>lshift_int_small hc.1 hc.2.1 hc.2.2 q
theorem mC:OpR X (binaryOp .RShift) (rI (fun _ j=>0<=j) fun i j=>.int (i / 2 ^ j.toNat)):=opI fun i j _ _ _ _ _ hc q =>
 rshift_int hc (by rw[Int.fdiv_eq_ediv_of_nonneg i (Af _)];exact q)
theorem eX:OpR X (binaryOp .BitAnd) (rI0 fun i j=>.int (Builtin.bitAnd i j)):=vX fun _ _ _ _ _ _ _ q=>and_int q
theorem mW:OpR X (binaryOp .BitOr) (rI0 fun i j=>.int (Builtin.bitOr i j)):=vX fun _ _ _ _ _ _ _ q=>or_int q
theorem mD:OpR X (binaryOp .BitXor) (rI0 fun i j=>.int (Builtin.bitXor i j)):=vX fun _ _ _ _ _ _ _ q=>xor_int q
theorem unI{f:Value->Sem Value}{g:Int->Int}
  (rule:∀(i:Int)(t:Tok)(s:Shared)(Q:Value->Shared->Prop)(E:Value->Shared->Prop),Q (.int (g i) s.toks) { s with toks:=s.toks+1 }->wpAny (model X.prog X.w) X.A (f (.int i t)) Q E s):
  UnR X f (rU fun i=>.int (g i)):=by
 intro pins s σ H x v Q I rx h;obtain⟨i,rfl,q⟩:=h;obtain⟨t,rfl⟩:=rx;exact rule i t s _ _ ⟨.int (g i),H,I.tok _,⟨_,rfl⟩,q⟩
theorem jD:UnR X (unaryOp .USub) (rU fun i=>.int (-i)):=unI fun _ _ _ _ _ q=>neg_int q
end
def Lk:V->V->Bool
 | .non,.non=>true | .non,.int _=>true | .int _,.non=>true | .non,.bl _=>true | .bl _,.non=>true | .non,.str _=>true | .str _,.non=>true
 | .int _,.int _=>true | .bl _,.bl _=>true | .str _,.str _=>true | .byt _,.byt _=>true
 | .int _,.str _=>true | .str _,.int _=>true | .bl _,.str _=>true | .str _,.bl _=>true
 |_,_=>false
def rEq:R2:=fun x y H Q=>Lk x y=true/\Q (.bl (decide (x=y))) H
def rNe:R2:=fun x y H Q=>Lk x y=true/\Q (.bl (!decide (x=y))) H
theorem ym{i j:Int}:decide (V.int i=V.int j)=(i == j):=by
 rw[Bool.eq_iff_iff];simp
theorem Cq{i j:Bool}:decide (V.bl i=V.bl j)=(i == j):=by
 rw[Bool.eq_iff_iff];simp
theorem yo{i j:Str}:decide (V.str i=V.str j)=(i == j):=by
 rw[Bool.eq_iff_iff];simp
theorem yp{i j:Array UInt8}:decide (V.byt i=V.byt j)=(i.toList == j.toList):=by
 rw[Bool.eq_iff_iff];cases i;cases j;simp
section
variable{X:Cx}{a b c:Expr}{ta tb tc:TE}{pos:Pos}
theorem bG{pins:List (Addr×Obj)}{σ:St}{H:Hp}{s:Shared}{Q:VK}{k k':Bool}(I:Inv X pins σ H s)(q:Q (.bl k) H)(e:k=k'):EP X pins σ Q (.bool k') s:=by
 subst e;exact⟨.bl k,H,I,rfl,q⟩
theorem aW:OpR X (compareOp .Eq) rEq:=by
 intro pins s σ H x y v u Q I rx ry h;obtain⟨hs,q⟩:=h;cases x with
 | non =>
  cases rx;cases y with
  |non=>cases ry;exact PySem.EqNone.eq_none_none (bG I q (by simp))
  |bl j=>cases ry;exact PySem.EqNone.eq_none_bool (bG I q (by simp))
  |int j=>obtain⟨t',rfl⟩:=ry;exact PySem.EqNone.eq_none_int (bG I q (by simp))
  |str j=>obtain⟨t',rfl⟩:=ry;exact PySem.EqNone.eq_none_str (bG I q (by simp))
  |_=>exact absurd (show false=true from hs) qbf
 | bl i =>
  cases rx;cases y with
  |non=>cases ry;exact PySem.EqNone.eq_bool_none (bG I q (by simp))
  |bl j=>cases ry;exact eq_bool (bG I q Cq)
  |str j=>obtain⟨t',rfl⟩:=ry;exact PySem.EqMixed.eq_bool_str (bG I q (by simp))
  |_=>exact absurd (show false=true from hs) qbf
 | int i =>
  obtain⟨t,rfl⟩:=rx;cases y with
  |non=>cases ry;exact PySem.EqNone.eq_int_none (bG I q (by simp))
  |int j=>obtain⟨t',rfl⟩:=ry;exact eq_int (bG I q ym)
  |str j=>obtain⟨t',rfl⟩:=ry;exact PySem.EqMixed.eq_int_str (bG I q (by simp))
  |_=>exact absurd (show false=true from hs) qbf
 | str i =>
  obtain⟨t,rfl⟩:=rx;cases y with
  |non=>cases ry;exact PySem.EqNone.eq_str_none (bG I q (by simp))
  |bl j=>cases ry;exact PySem.EqMixed.eq_str_bool (bG I q (by simp))
  |int j=>obtain⟨t',rfl⟩:=ry;exact PySem.EqMixed.eq_str_int (bG I q (by simp))
  |str j=>obtain⟨t',rfl⟩:=ry;exact eq_str (bG I q yo)
  |_=>exact absurd (show false=true from hs) qbf
 | byt i =>
  obtain⟨t,rfl⟩:=rx;cases y with
  |byt j=>obtain⟨t',rfl⟩:=ry;exact W.eq_bytes (bG I q yp)
  |_=>exact absurd (show false=true from hs) qbf
 |_=>cases y <;> exact absurd (show false=true from hs) qbf
theorem gn:OpR X (compareOp .NotEq) rNe:=by
 intro pins s σ H x y v u Q I rx ry h;obtain⟨hs,q⟩:=h;cases x with
 | non =>
  cases rx;cases y with
  |non=>cases ry;exact PySem.EqNone.ne_none_none (bG I q (by simp))
  |bl j=>cases ry;exact PySem.EqNone.ne_none_bool (bG I q (by simp))
  |int j=>obtain⟨t',rfl⟩:=ry;exact PySem.EqNone.ne_none_int (bG I q (by simp))
  |str j=>obtain⟨t',rfl⟩:=ry;exact PySem.EqNone.ne_none_str (bG I q (by simp))
  |_=>exact absurd (show false=true from hs) qbf
 | bl i =>
  cases rx;cases y with
  |non=>cases ry;exact PySem.EqNone.ne_bool_none (bG I q (by simp))
  |bl j=>cases ry;exact ne_bool (bG I q (congrArg not Cq))
  |str j=>obtain⟨t',rfl⟩:=ry;exact PySem.EqMixed.ne_bool_str (bG I q (by simp))
  |_=>exact absurd (show false=true from hs) qbf
 | int i =>
  obtain⟨t,rfl⟩:=rx;cases y with
  |non=>cases ry;exact PySem.EqNone.ne_int_none (bG I q (by simp))
  |int j=>obtain⟨t',rfl⟩:=ry;exact ne_int (bG I q (congrArg not ym))
  |str j=>obtain⟨t',rfl⟩:=ry;exact PySem.EqMixed.ne_int_str (bG I q (by simp))
  |_=>exact absurd (show false=true from hs) qbf
 | str i =>
  obtain⟨t,rfl⟩:=rx;cases y with
  |non=>cases ry;exact PySem.EqNone.ne_str_none (bG I q (by simp))
  |bl j=>cases ry;exact PySem.EqMixed.ne_str_bool (bG I q (by simp))
  |int j=>obtain⟨t',rfl⟩:=ry;exact PySem.EqMixed.ne_str_int (bG I q (by simp))
  |str j=>obtain⟨t',rfl⟩:=ry;exact ne_str (bG I q (congrArg not yo))
  |_=>exact absurd (show false=true from hs) qbf
 | byt i =>
  obtain⟨t,rfl⟩:=rx;cases y with
  |byt j=>obtain⟨t',rfl⟩:=ry;exact W.ne_bytes (bG I q (congrArg not yp))
  |_=>exact absurd (show false=true from hs) qbf
 |_=>cases y <;> exact absurd (show false=true from hs) qbf
theorem lB:OpR X (compareOp .Lt) (rI0 fun i j=>.bl (decide (i<j))):=FZ fun _ _ _ _ _ _ _ q=>lt_int q
theorem pO:OpR X (compareOp .LtE) (rI0 fun i j=>.bl (decide (i<=j))):=FZ fun _ _ _ _ _ _ _ q=>le_int q
theorem lC:OpR X (compareOp .Gt) (rI0 fun i j=>.bl (decide (j<i))):=FZ fun _ _ _ _ _ _ _ q=>gt_int q
theorem gR:OpR X (compareOp .Is) (fun x y H Q=>y = .non /\ Q (.bl (decide (x = .non))) H):=by
 intro pins s σ H x y v u Q I rx ry h;obtain⟨rfl,q⟩:=h;cases ry;refine is_none_gen (bG I q ?_)
 cases x <;> first
  |(cases rx;rfl)
  |(obtain⟨t,rfl⟩:=rx;rfl)
theorem JQ:OpR X (compareOp .IsNot) (fun x y H Q=>y = .non /\ Q (.bl (!decide (x = .non))) H):=by
 intro pins s σ H x y v u Q I rx ry h;obtain⟨rfl,q⟩:=h;cases ry;refine isnot_none_gen (bG I q ?_)
 cases x <;> first
  |(cases rx;rfl)
  |(obtain⟨t,rfl⟩:=rx;rfl)
theorem aN(b:Expr){op:CmpOp}(h:op≠.In:=by decide)(h2:op≠.NotIn:=by decide):behindInMarks op b=false:=by
 have e1:(op == CmpOp.In)=false:=by cases op <;> first|rfl|exact absurd rfl h
 have e2:(op == CmpOp.NotIn)=false:=by cases op <;> first|rfl|exact absurd rfl h2
 cases b <;> simp[behindInMarks,e1,e2]
theorem cF{op:CmpOp}{r:R2}(ho:OpR X (compareOp op) r)(ha:PE X a ta)(hb:PE X b tb)(hm:behindInMarks op b=false):PE X (.Compare a [op] [b] pos) (tOp r ta tb):=by
 intro pins s σ H Q I h;exact wpAny_Compare1 (FW ha hb I h fun v u s2 x y H2 I2 rx ry q=>ho pins s2 σ H2 x y v u Q I2 rx ry q) hm
def Jf(t:TE):TT:=fun σ H Q=>t σ H fun x H'=>iB Q x H'
theorem aH{op:CmpOp}{r:R2}(ho:OpR X (compareOp op) r)(ha:PE X a ta)(hb:PE X b tb)(hm:behindInMarks op b=false):PT X (.Compare a [op] [b] pos) (Jf (tOp r ta tb)):=by
 intro pins s σ H Q I h
 refine wpAny_isTrue_Compare1 (thn (ha pins s σ H _ I h) fun v s1 ⟨x,H1,I1,r1,q1⟩=>thn (hb pins s1 σ H1 _ I1 q1) fun u s2 ⟨y,H2,I2,r2,q2⟩ =>
  thn (ho pins s2 σ H2 x y v u _ I2 r1 r2 q2) fun c s3 ⟨z,H3,I3,r3,k,e,q3⟩=>?_) hm
 subst e;cases r3;exact wpAny_truthy_bool ⟨H3,I3,q3⟩
def Cr(r r':R2)(ta tb tc:TE):TE:=fun σ H Q=>ta σ H fun x H1=>tb σ H1 fun y H2=>r x y H2 fun z H3=>∃ k,z = .bl k /\
 (if k=true then tc σ H3 fun w' H4=>r' y w' H4 Q else Q (.bl false) H3)
theorem qz{op op':CmpOp}{r r':R2}(ho:OpR X (compareOp op) r)(ho':OpR X (compareOp op') r')(ha:PE X a ta)(hb:PE X b tb)(hc:PE X c tc)
  (hm:lastMarks [op,op'] [b,c]=false:=by with_unfolding_all rfl):PE X (.Compare a [op,op'] [b,c] pos) (Cr r r' ta tb tc):=by
 intro pins s σ H Q I h
 refine Compare_chain (thn (ha pins s σ H _ I h) fun v s1 ⟨x,H1,I1,r1,q1⟩=>chain_link (thn (hb pins s1 σ H1 _ I1 q1) fun u s2 ⟨y,H2,I2,r2,q2⟩ =>
  thn (ho pins s2 σ H2 x y v u _ I2 r1 r2 q2) fun d s3 ⟨z,H3,I3,r3,k,e,q3⟩=>?_)) hm
 subst e;cases r3;refine wpAny_truthy_bool ?_;cases k with
 |false=>exact ite_ff ⟨.bl false,H3,I3,rfl,q3⟩
 |true=>exact ite_tt (chain_last (thn (hc pins s3 σ H3 _ I3 q3) fun w' s4 ⟨z',H4,I4,r4,q4⟩=>ho' pins s4 σ H4 y z' u w' Q I4 r2 r4 q4))
theorem vZ{op op':CmpOp}{r r':R2}(ho:OpR X (compareOp op) r)(ho':OpR X (compareOp op') r')(ha:PE X a ta)(hb:PE X b tb)(hc:PE X c tc)
  (hm:lastMarks [op,op'] [b,c]=false:=by with_unfolding_all rfl):PT X (.Compare a [op,op'] [b,c] pos) (Jf (Cr r r' ta tb tc)):=by
 intro pins s σ H Q I h
 refine isTrue_chain (thn (ha pins s σ H _ I h) fun v s1 ⟨x,H1,I1,r1,q1⟩=>test_link (thn (hb pins s1 σ H1 _ I1 q1) fun u s2 ⟨y,H2,I2,r2,q2⟩ =>
  thn (ho pins s2 σ H2 x y v u _ I2 r1 r2 q2) fun d s3 ⟨z,H3,I3,r3,k,e,q3⟩=>?_)) hm
 subst e;cases r3;refine wpAny_truthy_bool ?_;cases k with
 | false =>
  obtain⟨k',e',q'⟩:=q3;cases e';exact ite_ff ⟨H3,I3,q'⟩
 | true =>
  refine ite_tt (test_last (thn (hc pins s3 σ H3 _ I3 q3) fun w' s4 ⟨z',H4,I4,r4,q4⟩=>thn (ho' pins s4 σ H4 y z' u w' _ I4 r2 r4 q4) fun d' s5 ⟨z2,H5,I5,r5,k2,e2,q5⟩=>?_));subst e2;cases r5;exact wpAny_truthy_bool ⟨H5,I5,q5⟩
def Ln(K:W.Frag)(x:V)(H:Hp)(k:Bool):Prop :=
 match x with
 | .non=>k=false
 | .bl b=>k=b
 | .int i=>k=(i != 0)
 | .str y=>y.length<=sizeLine/\k=((y.length:Int) != 0)
 | .byt y=>y.size<=sizeLine/\k=((y.size:Int) != 0)
 | .ref p=>(∃ xs,SqL K H p xs/\k = !xs.isEmpty)\/(∃ xs,SqT K H p xs/\k = !xs.isEmpty)\/∃ kvs,H p=some (.dK kvs)/\k = !kvs.isEmpty
 |_=>False
theorem Ag{κ:Type}{kvs:List (κ×V)}{vs:List (κ×Value)}(r:KV kvs vs):(!vs.isEmpty) = !kvs.isEmpty:=by
 cases r <;> rfl
theorem rE{xs:List V}{its:List Value}(r:Vals xs its):(!its.toArray.isEmpty) = !xs.isEmpty:=by
 cases r <;> simp
theorem mF:(sizeLine:Nat)<2 ^ 63:=by rw[sizeLine_eq];decide
theorem Lp:O1 X (fun x H Q=>∃ k,Ln X.K x H k/\Q k H):=by
 intro pins s σ H x v Q I rx h;obtain⟨k,e,q⟩:=h;have hl:=mF;have hs:sizeLine=16777216:=sizeLine_eq;cases x with
 | non =>
  cases rx;have e':k=false:=e;subst e';exact truthy_none ⟨H,I,q⟩
 | bl b =>
  cases rx;have e':k=b:=e;subst e';exact wpAny_truthy_bool ⟨H,I,q⟩
 | int i =>
  obtain⟨t,rfl⟩:=rx;have e':k=(i != 0):=e;subst e';exact PySem.P.truthy_int ⟨H,I,q⟩
 | str y =>
  obtain⟨t,rfl⟩:=rx;obtain⟨hy,e'⟩:y.length<=sizeLine/\k=((y.length:Int) != 0):=e;subst e';exact PySem.P.truthy_str (by omega) ⟨H,I.tok _,q⟩
 | byt y =>
  obtain⟨t,rfl⟩:=rx;obtain⟨hy,e'⟩:y.size<=sizeLine/\k=((y.size:Int) != 0):=e;subst e';exact W.truthy_bytes (by omega) ⟨H,I.tok _,q⟩
 | ref p =>
  cases rx;have e':(∃ xs,SqL X.K H p xs/\k = !xs.isEmpty)\/(∃ xs,SqT X.K H p xs/\k = !xs.isEmpty)\/∃ kvs,H p=some (.dK kvs)/\k = !kvs.isEmpty:=e;rcases e' with⟨xs,hx,e'⟩|⟨xs,hx,e'⟩|⟨kvs,hx,e'⟩
  . subst e'
    obtain⟨its,r,pl,hz⟩:=I.list hx;have hlen:=r.length;exact wpAny_truthy_list pl.isList (by simp only[List.size_toArray];omega) ⟨H,I.tok _,by rw[rE r];exact q⟩
  . subst e'
    obtain⟨its,r,pl,hz⟩:=I.tuple hx;have hlen:=r.length;exact truthy_tuple pl (by simp only[List.size_toArray];omega) ⟨H,I.tok _,by rw[rE r];exact q⟩
  . subst e'
    obtain⟨hz,hS,vs,r,m⟩:kvs.length<=sizeLine/\(p == sysModules)=false/\∃ vs,KV kvs vs/\s.heap.DictOf (bM X.prog X.w) p vs:=I.hok p _ hx;have hlen:kvs.length=vs.length:=Paired.length r;exact wpAny_truthy_dict hS m (by omega) ⟨H,I.tok _,by rw[Ag r];exact q⟩
 |_=>exact(show False from e).elim
theorem g8(ha:PE X a ta)(he:∀ whole,isTrue a X.env whole=(do let v <- whole;standAt a.pos;holding [v] (truthy v))):
  PT X a (fun σ H Q=>ta σ H fun x H'=>∃ k,Ln X.K x H' k/\Q k H'):=by
 intro pins s σ H Q I h;exact isTrue_plain (thn (ha pins s σ H _ I h) fun v s1 ⟨x,H1,I1,r1,q1⟩=>Lp pins s1 σ H1 x v Q I1 r1 q1) (he _)
theorem bj:OpR X (binaryOp .Add) (fun x y H Q=>∃ i j,x = .str i/\y = .str j/\i.length+j.length<=sizeLine/\Q (.str (i++j)) H):=by
 intro pins s σ H x y v u Q I rx ry h;obtain⟨i,j,rfl,rfl,hz,q⟩:=h;obtain⟨t,rfl⟩:=rx;obtain⟨t',rfl⟩:=ry;exact add_str (fun t' tk=>⟨.str (i++j),H,I.tok _,⟨_,rfl⟩,q⟩) hz
theorem xR:OpR X (inplaceOp .Add) (fun x y H Q=>∃ i j,x = .str i/\y = .str j/\i.length+j.length<=sizeLine/\Q (.str (i++j)) H):=by
 intro pins s σ H x y v u Q I rx ry h;obtain⟨i,j,rfl,rfl,hz,q⟩:=h;obtain⟨t,rfl⟩:=rx;obtain⟨t',rfl⟩:=ry;exact iadd_str (fun t' tk=>⟨.str (i++j),H,I.tok _,⟨_,rfl⟩,q⟩) hz
theorem vals1{x:V}{us:List Value}(r:Vals [x] us):∃ u,us=[u]/\RelV x u:=by
 cases r with
 |cons r1 r2=>cases r2;exact⟨_,rfl,r1⟩
theorem vals2{x y:V}{us:List Value}(r:Vals [x,y] us):∃ u w',us=[u,w']/\RelV x u/\RelV y w':=by
 cases r with
 | cons r1 r2 =>
  cases r2 with
  |cons r3 r4=>cases r4;exact⟨_,_,rfl,r1,r3⟩
theorem uw(hc:X.calm=true):eG X (.builtin "max") (fun xs H Q=>∃ i j,xs=[.int i,.int j]/\Q (.int (if j > i then j else i)) H):=by
 intro pins s σ H xs us Q I r h;obtain⟨i,j,rfl,q⟩:=h;obtain⟨u,w',rfl,⟨t,rfl⟩,⟨t',rfl⟩⟩:=vals2 r;refine max_two_ints (I.ok.hd hc) fun h' tk k=>⟨_,H,I.kept k,?_,q⟩
 by_cases hj:j > i
 . rw[qp hj,qp hj];exact⟨_,rfl⟩
 . rw[qnZ hj,qnZ hj];exact⟨_,rfl⟩
theorem Cu:eG X (.type "int") (fun xs H Q=>(∃ i,xs=[.int i]/\Q (.int i) H)\/∃ k,xs=[.bl k]/\Q (.int (if k then 1 else 0)) H):=by
 intro pins s σ H xs us Q I r h;rcases h with⟨i,rfl,q⟩|⟨k,rfl,q⟩
 . obtain⟨u,rfl,t,rfl⟩:=vals1 r
   exact call_int_int ⟨.int i,H,I,⟨_,rfl⟩,q⟩
 . obtain⟨u,rfl,r1⟩:=vals1 r
   cases r1;exact call_int_bool ⟨.int (if k then 1 else 0),H,I.tok _,⟨_,rfl⟩,q⟩
end
end L2
namespace L2
open PySem PySem.Spec PyProof.Rows
structure ObjM(h:Heap)(x dx C:Addr)(mA:Str->Option Value):Prop where
 obj:h.get? x=some (W.instObj C dx)
 ns:h.Ns1 dx mA
 ne:dx≠x
theorem Cv{h:Heap}{dx:Addr}{mA:Str->Option Value}(n:h.Ns1 dx mA):∃ od,h.get? dx=some od/\∀ name,W.lookIn name od=some (mA name):=by
 obtain⟨o,es,ep,ho,hd,hk,_,hm⟩:=n;refine⟨o,ho,fun name=>?_⟩;have e:=hm name;unfold nsFind findBy at e;rw[<- Array.find?_toList]at e;unfold W.lookIn;rw[hd];dsimp only
 split
 . rename_i y q
   rw[q]at e;exact congrArg some e
 . rename_i q
   rw[q]at e
   have a:es.toList.any (·.refKey)=false:=by
    rw[List.any_eq_false];intro y hy;obtain⟨z,t,hkey⟩:=hk y (Array.mem_toList_iff.mp hy);simp[DictEntry.refKey,hkey]
   have a':¬ es.toList.any (·.refKey)=true:=by rw[a];exact qbf
   rw[qnZ a'];exact congrArg some e
theorem ObjM.look{h:Heap}{x dx C:Addr}{mA:Str->Option Value}(I:ObjM h x dx C mA):∃ od,W.InstAt h x (W.instObj C dx) C (some od)/\∀ name,W.lookIn name od=some (mA name):=
 let ⟨od,ho,hl⟩:=Cv I.ns
 ⟨od,⟨I.obj,rfl,rfl,ho⟩,hl⟩
section
variable{prog:Program}{w:World}{A:Around}{E:Value->Shared->Prop}{s:Shared}{K:W.Frag}{x dx C f:Addr}{mA:Str->Option Value}{name:Str}{v:Value}
theorem JR{expr:Bool}{Q:Value->Shared->Prop}(X:K.In s.heap)(I:ObjM s.heap x dx C mA)(hg:W.plainGet K C name=true)(hh:W.hasDictIn K C=true)
  (ha:W.findIn K (.ref C) name=some none) (hv:mA name=some v) (hv':W.handedIn v=true) (h:Q v { s with toks:=s.toks+1 }):
  wpAny (model prog w) A (getAttr (.ref x) name expr) Q E s:=by
 obtain⟨od,J,hl⟩:=I.look;exact W.get_value X J (W.plainGet_of hg).1 (W.findObj_own hh ha rfl (by rw[hl,hv])) hv' h
theorem Ga{pl:Sem Bool}{Q:Value×List Value->Shared->Prop}(X:K.In s.heap)(I:ObjM s.heap x dx C mA)(hg:W.plainGet K C name=true)
  (hf:W.findIn K (.ref C) name=some (some (.ref f))) (ht:W.isFn K (.ref f)=true) (hv:mA name=none) (h:Q (.ref f,[.ref x]) s):
  wpAny (model prog w) A (getMethod (.ref x) name pl) Q E s:=by
 obtain⟨od,J,hl⟩:=I.look;exact W.method_fn X J (W.plainGet_of hg).1 (W.plainGet_of hg).2 hf (beq_iff_eq.mp ht) (by show(W.lookIn name od).map (·.isSome)=some false;rw[hl,hv];rfl) h
theorem JS{ns:List Str}{Q:Unit->Shared->Prop}(X:K.In s.heap)(I:ObjM s.heap x dx C mA)
  (hs:W.findIn K (.ref C) "__setattr__"=some (some (.builtin "object.__setattr__"))) (hp:W.plainOver K C=true) (ht:W.takerIn K C name=some none) (hh:W.hasDictIn K C=true)
  (hw:PySem.Within mA ns) (hsz:ns.length<=sizeLine)
  (h:∀ h',ObjM h' x dx C (fun y=>if y=name then some v else mA y)->Heap.SameBut dx s.heap h'->Q () { s with heap:=h',toks:=s.toks+2 }):
  wpAny (model prog w) A (setAttr (.ref x) name v) Q E s:=by
 obtain⟨od,J,hl⟩:=I.look;refine W.set_plain X J hs (W.osa_open (s:={ s with toks:=s.toks+1 }) (r:=none) X J hp ht fun b=>?_);obtain⟨cd,hc,hd'⟩:=W.any_some hh;have hx:s.heap.get? x=some ⟨.ref C,some dx,.plain,#[]⟩:=I.obj;refine wpAny_bind (wpAny_pure (wpAny_bind (wpAny_bind (wpAny_loadPart hx (wpAny_bind (W.Looks.here (s:={ s with toks:=s.toks+1 }) (W.looks_clsIn X hc) ?_))))));rw[hd'];refine wpAny_pure (a:=some dx) (wpAny_bind (wpAny_pure (wpAny_bind ?_)));refine wpAny_nsSet1 (s:={ s with toks:=s.toks+1 }) I.ns fun h' hn2 hs2=>?_
 obtain⟨oD,esD,epD,hoD,hdD,hcD⟩:=hn2.count (PySem.Within.cons name v hw);refine wpAny_bind (wpAny_lookBehind hoD (by rw[hdD];exact pastItsLine_dict (qnt hcD (by rw[List.length_cons];omega))) ?_);exact wpAny_pure (h _ ⟨(hs2.2 _ (Ne.symm I.ne)).trans I.obj,hn2,I.ne⟩ hs2)
theorem Gb{R:Result->Shared->Prop}{vs:List Value}{kw:List (Str×Value)}(X:K.In s.heap)(hm:W.makesIn K C=true)
  (hi:W.findIn K (.ref C) "__init__"=some (some (.ref f))) (hf:W.typeIn K (.ref f)=some (.type "function"))
  (h:codeAny (model prog w) (A.under (.builtin "type.__call__" ⟨.ref C::vs,kw⟩)) (.call (.ref f) ⟨.ref (s.heap.objs.size+1):: vs,kw⟩) (W.InitBack (s.heap.objs.size+1) R)
   { s with heap:=(s.heap.push W.emptyDict).push (W.instObj C s.heap.objs.size) }):
  codeAny (model prog w) A (.call (.ref C) ⟨vs,kw⟩) R s:=by
 obtain⟨hh,g,d,t,os⟩:=s;exact W.make_core (W.makes_of X hm) (W.looks_findIn X hi) (fun self=>W.bind_fn X self hf) (.inl rfl) h
end
def bf(f:Str)(v:V):List (Str×V)->List (Str×V)
 |[]=>[(f,v)]
 |(g,x):: r=>if g=f then(g,v):: r else(g,x):: bf f v r
theorem bC(f g:Str)(v:V):∀ fs:List (Str×V),(bf f v fs).lookup g=if g=f then some v else fs.lookup g
 | []=>by
  show List.lookup g [(f,v)]=_
  by_cases h:g=f
  . have hb:(g == f)=true:=beq_iff_eq.mpr h
    simp only[List.lookup,hb,qp h]
  . have hb:(g == f)=false:=beq_eq_false_iff_ne.mpr h
    simp only[List.lookup,hb,qnZ h]
 | (k, x):: r=>by
  have ih:=bC f g v r;rw[show bf f v ((k,x):: r)=(if k=f then(k,v):: r else(k,x):: bf f v r)from rfl]
  by_cases hk:k=f
  . rw[qp hk]
    by_cases h:g=k
    . have hb:(g == k)=true:=beq_iff_eq.mpr h
      simp only[List.lookup,hb,qp (h.trans hk)]
    . have hb:(g == k)=false:=beq_eq_false_iff_ne.mpr h
      simp only[List.lookup,hb,qnZ (fun e:g=f=>h (e.trans hk.symm))]
  . rw[qnZ hk]
    by_cases h:g=k
    . have hb:(g == k)=true:=beq_iff_eq.mpr h
      simp only[List.lookup,hb,qnZ (fun e:g=f=>hk (h.symm.trans e))]
    . have hb:(g == k)=false:=beq_eq_false_iff_ne.mpr h
      simp only[List.lookup,hb];exact ih
theorem oA(f:Str)(v:V):∀ fs:List (Str×V),f∈(bf f v fs).map (·.1)/\∀ g,g∈fs.map (·.1)->g∈(bf f v fs).map (·.1)
 |[]=>⟨by simp[bf],fun g h=>by simp at h⟩
 | (k, x):: r=>by
  obtain⟨i1,i2⟩:=oA f v r;rw[show bf f v ((k,x):: r)=(if k=f then(k,v):: r else(k,x):: bf f v r)from rfl]
  by_cases hk:k=f
  . rw[qp hk]
    subst hk;exact⟨by simp,fun g h=>by simpa using h⟩
  . rw[qnZ hk]
    refine⟨?_,fun g h=>?_⟩
    . rw[List.map_cons]
      exact qmm _ i1
    . rw[List.map_cons]at h ⊢
      rcases List.mem_cons.mp h with e|e
      . exact List.mem_cons.mpr (.inl e)
      . exact qmm _ (i2 g e)
theorem qd(f:Str)(v:V):∀ fs:List (Str×V),(bf f v fs).length <= fs.length+1
 |[]=>by simp[bf]
 | (k,x):: r=>by
  have ih:=qd f v r;rw[show bf f v ((k,x):: r)=(if k=f then(k,v):: r else(k,x):: bf f v r)from rfl]
  by_cases hk:k=f
  . rw[qp hk,List.length_cons,List.length_cons];omega
  . rw[qnZ hk,List.length_cons,List.length_cons];omega
theorem RelO.some_of{v:V}{o:Option Value}(r:RelO (some v) o):∃ u,o=some u/\RelV v u:=by
 cases o with
 |none=>exact(show False from r).elim
 |some u=>exact⟨u,rfl,r⟩
theorem RelO.none_of{o:Option Value}(r:RelO none o):o=none:=by
 cases o with
 |none=>rfl
 |some u=>exact(show False from r).elim
theorem Cw{v:V}{u:Value}(r:RelV v u):W.handedIn u=true:=by
 cases v with
 |non=>cases(show u=Value.none from r);rfl
 |bl b=>cases(show u=Value.bool b from r);rfl
 |int i=>obtain⟨t,e⟩:=(show ∃ t,u=Value.int i t from r);cases e;rfl
 |str x=>obtain⟨t,e⟩:=(show ∃ t,u=Value.str x t from r);cases e;rfl
 |byt b=>obtain⟨t,e⟩:=(show ∃ t,u=Value.bytes b t from r);cases e;rfl
 |flt b=>obtain⟨t,e⟩:=(show ∃ t,u=Value.float b t from r);cases e;rfl
 |ref a=>cases(show u=Value.ref a from r);rfl
 |ty n=>cases(show u=Value.type n from r);rfl
section
variable{P:Program}{w:World}{H H':Hp}{h h':Heap}{a C dx:Addr}{fs fs':List (Str×V)}
theorem pP(hok:HOk P w H h)(e:H a=some (.ins C dx fs)):∃ mA,ObjM h a dx C mA/\(∀ f,RelO (fs.lookup f) (mA f))/\PySem.Within mA (fs.map (·.1))/\fs.length<=1000/\H dx=some (.own a):=by
 obtain⟨d,z,ne,ob,mA,n,r,q⟩:=(show ObjOk P w H h a (.ins C dx fs)from hok a _ e)
 exact⟨mA,⟨ob,n,ne⟩,r,q,z,d⟩
end
structure Cls(K:W.Frag)(C:Addr):Prop where
 pg:W.plainGet K C Str.empty=true
 hd:W.hasDictIn K C=true
 po:W.plainOver K C=true
 sa:W.findIn K (.ref C) "__setattr__"=some (some (.builtin "object.__setattr__"))
theorem Cls.get{K:W.Frag}{C:Addr}(c:Cls K C)(f:Str):W.plainGet K C f=true:=c.pg
def NoAttr(K:W.Frag)(C:Addr)(f:Str):Prop:=W.findIn K (.ref C) f=some none
theorem NoAttr.taker{K:W.Frag}{C:Addr}{f:Str}(n:NoAttr K C f):W.takerIn K C f=some none:=by
 unfold W.takerIn;rw[show W.findIn K (.ref C) f=some none from n]
 rfl
structure Meth(K:W.Frag)(C:Addr)(m:Str)(f:Addr):Prop where
 at_:W.findIn K (.ref C) m=some (some (.ref f))
 fn:W.isFn K (.ref f)=true
 kp:W.keepIn K (.ref f)=true
section
variable{X:Cx}{pins:List (Addr×Obj)}{σ:St}{H:Hp}{s:Shared}{a C dx:Addr}{fs:List (Str×V)}{f:Str}{v:V}{A:Around}{E:Value->Shared->Prop}
theorem Ah{b:Bool}{Q:Value->Shared->Prop}(I:Inv X pins σ H s)(e:H a=some (.ins C dx fs))(c:Cls X.K C)(n:NoAttr X.K C f)(l:fs.lookup f=some v)
  (h:∀ u s',Inv X pins σ H s'->RelV v u->Q u s'):wpAny (model X.prog X.w) A (getAttr (.ref a) f b) Q E s:=by
 obtain⟨mA,O,r,_,_,_⟩:=pP I.hok e;obtain⟨u,hu,ru⟩:=RelO.some_of (v:=v) (o:=mA f) (by rw[<- l];exact r f);exact JR I.kIn O (c.get f) c.hd n hu (Cw ru) (h u _ (I.tok _) ru)
theorem rG{m:Str}{g:Addr}{pl:Sem Bool}{Q:Value×List Value->Shared->Prop}(I:Inv X pins σ H s)(e:H a=some (.ins C dx fs))(c:Cls X.K C)(k:Meth X.K C m g)(l:fs.lookup m=none)
  (h:Q (.ref g,[.ref a]) s):wpAny (model X.prog X.w) A (getMethod (.ref a) m pl) Q E s:=by
 obtain⟨mA,O,r,_,_,_⟩:=pP I.hok e;have hn:mA m=none:=RelO.none_of (by rw[<- l];exact r m);exact Ga I.kIn O (c.get m) k.at_ k.fn hn h
theorem Ai{y:V}{u:Value}{Q:Unit->Shared->Prop}(I:Inv X pins σ H s)(e:H a=some (.ins C dx fs))(c:Cls X.K C)(n:NoAttr X.K C f)(hl:fs.length<1000)(ry:RelV y u)
  (h:∀ s',Inv X pins σ (upd H a (.ins C dx (bf f y fs))) s'->Q () s'):wpAny (model X.prog X.w) A (setAttr (.ref a) f u) Q E s:=by
 obtain⟨mA,O,r,wi,_,ho⟩:=pP I.hok e;have hz:(fs.map (·.1)).length <= sizeLine:=by rw[qlm,sizeLine_eq];omega
 refine JS I.kIn O c.sa c.po n.taker c.hd wi hz fun h' O' sb=>h _ ?_
 have hd:∃ o,h'.get? dx=some o:=let ⟨o,_,_,e',_⟩:=O'.ns;⟨o,e'⟩;refine I.write (x:=a) (e:=dx) (by rw[e];exact True.intro) (.inr ho) (fun b q hb z=>(sb.2 b hb).trans z) hd ?_;refine⟨by rw[aF O.ne];exact ho,?_,O.ne,O'.obj,_,O'.ns,fun g=>?_,fun g hg=>?_⟩
 . have:=qd f y fs;omega
 . show RelO ((bf f y fs).lookup g) (if g=f then some u else mA g)
   rw[bC]
   by_cases q:g=f
   . rw[qp q,qp q];exact ry
   . rw[qnZ q,qnZ q];exact r g
 . by_cases q:g=f
   . rw[q];exact(oA f y fs).1
   . refine(oA f y fs).2 g (wi g fun z=>hg ?_)
     show(if g=f then some u else mA g)=none;rw[qnZ q];exact z
theorem Inv.made(I:Inv X pins σ H s):Inv X pins σ (upd (upd H s.heap.objs.size (.own (s.heap.objs.size+1))) (s.heap.objs.size+1) (.ins C s.heap.objs.size []))
  { s with heap:=(s.heap.push W.emptyDict).push (W.instObj C s.heap.objs.size) }:=by
 have e1:(s.heap.push W.emptyDict).get? s.heap.objs.size=some W.emptyDict:=Heap.get?_push_size s.heap rfl
 have e2:((s.heap.push W.emptyDict).push (W.instObj C s.heap.objs.size)).get? (s.heap.objs.size+1)=some (W.instObj C s.heap.objs.size):=by
  have:=Heap.get?_push_size (s.heap.push W.emptyDict) (o:=W.instObj C s.heap.objs.size) rfl
  rwa [Heap.size_push]at this
 have e3:(s.heap.push W.emptyDict).Ns s.heap.objs.size (fun _=>none):=⟨W.emptyDict,#[],_,e1,rfl,(fun e he=>absurd he (by simp)),fun _=>rfl⟩
 have I1:=I.laid (a:=s.heap.objs.size) (o:=.own (s.heap.objs.size+1)) (h':=s.heap.push W.emptyDict) (t':=s.toks) (fun b u q=>Heap.get?_push_of_some _ q) (qnr _) ⟨_,e1⟩;refine I1.laid (a:=s.heap.objs.size+1) (o:=.ins C s.heap.objs.size []) (t':=s.toks) (fun b u q=>Heap.get?_push_of_some _ q) (Nat.le_of_eq (Heap.size_push _ _)) ?_;have ne:s.heap.objs.size≠s.heap.objs.size+1:=Nat.ne_of_lt (Nat.lt_succ_self _);refine⟨by rw[aF ne,au],qnz _,ne,e2,fun _=>none,(Heap.Ns1.of_empty e3).at fun o q=>Heap.get?_push_of_some _ q,fun _=>True.intro,fun y hy=>absurd rfl hy⟩
theorem JT{prog:Program}{w:World}{env:Env}{e:Expr}{f:Str}{pos:Pos}{s:Shared}{Q:Value->Shared->Prop}(hb:attributeBase e f env (eval e env)=eval e env)
  (h:wpAny (model prog w) A (eval e env) (fun o s₁=>wpAny (model prog w) A (getAttr o f true) Q E s₁) E s):wpAny (model prog w) A (eval (.Attribute e f pos) env) Q E s :=
 Attribute_any_ h (by rw[arm_eval_Attribute,hb])
end
inductive iFld(K:W.Frag)(f:Str)(Q:VK)(x:V)(H:Hp):Prop
 |mk (a C dx:Addr) (fs:List (Str×V)) (v:V) (_:x = .ref a) (_:H a=some (.ins C dx fs)) (_:Cls K C) (_:NoAttr K C f) (_:fs.lookup f=some v) (_:Q v H)
def O3(K:W.Frag)(ta:TE)(f:Str):TE:=fun σ H Q=>ta σ H fun x H1=>iFld K f Q x H1
def O4(K:W.Frag)(ta tv:TE)(f:Str):TS:=fun D σ H=>tv σ H fun y H1=>ta σ H1 fun x H2=>∃ a C dx fs,x = .ref a/\H2 a=some (.ins C dx fs)/\Cls K C/\NoAttr K C f/\fs.length<1000 /\
 D.nx σ (upd H2 a (.ins C dx (bf f y fs)))
section
variable{X:Cx}{o e value:Expr}{f:Str}{pos pos' tpos:Pos}{ta tv:TE}
theorem bN(he:PE X e ta)(hb:attributeBase e f X.env (eval e X.env)=eval e X.env):PE X (.Attribute e f pos) (O3 X.K ta f):=by
 intro pins s σ H Q I h;refine JT hb (thn (he pins s σ H _ I h) fun u s1 ⟨x,H1,I1,rx,a,C,dx,fs,v,ex,ea,c,n,l,q⟩=>?_);subst ex;obtain rfl:u=Value.ref a:=rx;exact Ah I1 ea c n l fun u' s2 I2 ru=>⟨v,H1,I2,ru,q⟩
theorem iQ(ha:PE X o ta)(hv:PE X value tv)(hs:swapsWith value (some (.Attribute o f pos')) pos.line X.env=pure false):PS X (.Assign [.Attribute o f pos'] value pos) (O4 X.K ta tv f):=by
 intro pins s σ H D I h;refine plainObj_wpAny_Assign_Attribute (thn (hv pins s σ H _ I h) fun u s1 ⟨y,H1,I1,ry,q⟩=>thn (ha pins s1 σ H1 _ I1 q) fun ov s2 ⟨x,H2,I2,rx,a,C,dx,fs,ex,ea,c,n,l,q2⟩=>?_) hs;subst ex;obtain rfl:ov=Value.ref a:=rx;exact Ai I2 ea c n l ry fun s3 I3=>⟨σ,_,I3,q2⟩
end
section
variable{X:Cx}{pins:List (Addr×Obj)}{σ:St}{H:Hp}{s:Shared}{A:Around}{E:Value->Shared->Prop}{Q:Value->Shared->Prop}{c:Value}{b:Bool}
inductive TyOf(K:W.Frag)(H:Hp):V->Value->Prop where
 |non:TyOf K H .non (.type "NoneType")
 |bl (x:Bool):TyOf K H (.bl x) (.type "bool")
 |int (i:Int):TyOf K H (.int i) (.type "int")
 |str (x:Str):TyOf K H (.str x) (.type "str")
 |flt (x:UInt64):TyOf K H (.flt x) (.type "float")
 |lst {a:Addr} {xs:List V} (e:H a=some (.lst xs)):TyOf K H (.ref a) (.type "list")
 |frz {a:Addr} {o:Obj} {xs:List V} (e:H a=some (.frz o (.lst xs))):TyOf K H (.ref a) (.type "list")
 |tup {a:Addr} {xs:List V} (e:H a=some (.tup xs)):TyOf K H (.ref a) (.type "tuple")
 |dK {a:Addr} {kvs:List (Key×V)} (e:H a=some (.dK kvs)):TyOf K H (.ref a) (.type "dict")
 |dT {a:Addr} {kvs:List (List Key×V)} (e:H a=some (.dT kvs)):TyOf K H (.ref a) (.type "dict")
 | ins {a C dx:Addr} {fs:List (Str×V)} (e:H a=some (.ins C dx fs)) (cl:Cls K C) (ha:W.findIn K (.ref C) "__class__"=some (some (.builtin "object.__class__")))
   (hn:W.specialIn K (.builtin "object.__class__") "__get__"=some (some (.builtin "getset_descriptor.__get__"))) (htk:W.takesIn K (.builtin "object.__class__")=some true)
   (hm:W.mroIn K C (.type "object")=some true):TyOf K H (.ref a) (.ref C)
theorem Cy{x:V}{u t:Value}(I:Inv X pins σ H s)(rx:RelV x u)(ty:TyOf X.K H x t)(e:W.kitOne X.K t c=some b)(h:∀ tk,Q (.bool b) { s with toks:=tk }):
  wpAny (model X.prog X.w) A (call (.builtin "isinstance") [u,c]) Q E s:=by
 cases ty with
 |non=>cases(show u=Value.none from rx);exact W.kia_one W.kitx_none I.kIn True.intro e (fun z=>nomatch z) h
 |bl y=>cases(show u=Value.bool y from rx);exact W.kia_one W.kitx_bool I.kIn True.intro e (fun z=>nomatch z) h
 |int i=>obtain⟨t,q⟩:=(show ∃ t,u=Value.int i t from rx);cases q;exact W.kia_one W.kitx_int I.kIn True.intro e (fun z=>nomatch z) h
 |str y=>obtain⟨t,q⟩:=(show ∃ t,u=Value.str y t from rx);cases q;exact W.kia_one W.kitx_str I.kIn True.intro e (fun z=>nomatch z) h
 |flt y=>obtain⟨t,q⟩:=(show ∃ t,u=Value.float y t from rx);cases q;exact W.kia_one W.kitx_float I.kIn True.intro e (fun z=>nomatch z) h
 | @lst a xs ea =>
  cases(show u=Value.ref a from rx);obtain⟨_,_,n,_,h1⟩:=(show ObjOk X.prog X.w H s.heap a (.lst xs)from I.hok a _ ea)
  exact W.kia_one W.kitx_list I.kIn ⟨_,h1,rfl⟩ e (fun z=>nomatch z) h
 | @frz a ob xs ea =>
  cases(show u=Value.ref a from rx);obtain⟨_,_,_,n,_,h1⟩:=(show ObjOk X.prog X.w H s.heap a (.frz ob (.lst xs))from I.hok a _ ea)
  exact W.kia_one W.kitx_list I.kIn ⟨_,h1,rfl⟩ e (fun z=>nomatch z) h
 | @tup a xs ea =>
  cases(show u=Value.ref a from rx);obtain⟨_,_,_,p⟩:=(show ObjOk X.prog X.w H s.heap a (.tup xs)from I.hok a _ ea)
  obtain⟨o,h1,h2,_⟩:=p;exact W.kia_one W.kitx_tuple I.kIn ⟨o,h1,h2⟩ e (fun z=>nomatch z) h
 | @dK a kvs ea =>
  cases(show u=Value.ref a from rx);obtain⟨_,_,vs,_,p⟩:=(show ObjOk X.prog X.w H s.heap a (.dK kvs)from I.hok a _ ea)
  obtain⟨o,es,ep,h1,h2,_⟩:=p;exact W.kia_one W.kitx_dict I.kIn ⟨o,h1,h2.1⟩ e (fun z=>nomatch z) h
 | @dT a kvs ea =>
  cases(show u=Value.ref a from rx);obtain⟨_,_,xs,_,o,es,ep,h1,h2,_⟩:=(show ObjOk X.prog X.w H s.heap a (.dT kvs)from I.hok a _ ea)
  exact W.kia_one W.kitx_dict I.kIn ⟨o,h1,h2.1⟩ e (fun z=>nomatch z) h
 | @ins a C dx fs ea cl ha hn htk hm =>
  cases(show u=Value.ref a from rx);obtain⟨mA,O,_⟩:=pP I.hok ea;obtain⟨od,J,_⟩:=O.look;exact W.kia_one (W.kitx_own (cl.get _) cl.hd ha hn htk hm) I.kIn J e (fun z=>nomatch z) h
end
end L2
namespace L2
open PySem PySem.Spec PyProof.Rows
structure Room(k:Nat)(A:Around):Prop where
 hd:A.handled=none
 dp:A.depth+3 * k+5<recursionLimit
 un:A.units+16 * k+200<cLine
theorem Room.mono{j k:Nat}{A:Around}(r:Room k A)(h:j<=k):Room j A:=⟨r.hd,by have:=r.dp;omega,by have:=r.un;omega⟩
theorem Room.deeper{k:Nat}{A:Around}(r:Room (k+1) A)(env:Env):Room k (A.deeper env):=
 ⟨r.hd,by have:=r.dp;show A.depth+1+3 * k+5<_;omega,by have:=r.un;show A.units+3+16 * k+200<_;omega⟩
theorem Aj{A:Around}{C:Addr}{us:List Value}{kw:List (Str×Value)}:(A.under (.builtin "type.__call__" ⟨.ref C::us,kw⟩)).depth=A.depth+1:=by
 first|rfl|simp[Around.under,Code.weight,Code.isCreation,Code.isGuard,Code.isCaller,Code.frames,Code.isFrame,guardIds]
theorem Ak{A:Around}{C:Addr}{us:List Value}{kw:List (Str×Value)}:(A.under (.builtin "type.__call__" ⟨.ref C::us,kw⟩)).units=A.units+1:=by
 first|rfl|simp[Around.under,Code.cUnits,Code.frames,Code.isFrame]
theorem Room.make{k:Nat}{A:Around}(r:Room (k+1) A)(C:Addr)(us:List Value)(kw:List (Str×Value)):Room k (A.under (.builtin "type.__call__" ⟨.ref C::us,kw⟩)):=
 ⟨r.hd,by have:=r.dp;rw[Aj];omega,by have:=r.un;rw[Ak];omega⟩
theorem Room.depth{k:Nat}{A:Around}(r:Room k A):A.depth<recursionLimit:=by have:=r.dp;omega
theorem Room.units{k:Nat}{A:Around}(r:Room k A):A.units+64<cLine:=by have:=r.un;omega
def qC:TA:=fun _ H Q=>Q [] H
def vH(ta:TE)(tr:TA):TA:=fun σ H Q=>ta σ H fun x H1=>tr σ H1 fun xs H2=>Q (x::xs) H2
section
variable{X:Cx}{e:Expr}{es:List Expr}{te:TE}{t:TA}{pos:Pos}
theorem aj:PA X [] qC:=fun _ _ _ _ H Q I h=>Calls.spliced_nil ⟨[],H,I,.nil,h⟩
theorem aa(ha:PE X e te)(hr:PA X es t)(hs:starEach (e::es) X.env=(false,eval e X.env):: starEach es X.env:=by rfl):PA X (e::es) (vH te t):=by
 intro pos pins s σ H Q I h;rw[hs];show wpAny _ _ (spliced ((false,eval e X.env):: backTo pos (starEach es X.env))) _ _ s;refine Calls.spliced_cons (thn (ha pins s σ H _ I h) fun u s1 ⟨x,H1,I1,r1,q1⟩=>?_);exact thn (hr pos pins s1 σ H1 _ I1 q1) fun us s2 ⟨xs,H2,I2,r2,q2⟩=>⟨x::xs,H2,I2,.cons r1 r2,q2⟩
def O5(t:TA):TE:=fun σ H Q=>t σ H fun xs H1=>xs.length<=sizeLine/\∀ p,H1 p=none->Q (.ref p) (upd H1 p (.tup xs))
def O6(t:TA):TE:=fun σ H Q=>t σ H fun xs H1=>xs.length<=sizeLine/\∀ p,H1 p=none->Q (.ref p) (upd H1 p (.lst xs))
theorem bw{x1}(h:PA X es t):PE X (.Tuple es x1 pos) (O5 t):=by
 intro pins s σ H Q I hq;refine wpAny_Tuple_spliced (thn (h pos pins s σ H _ I hq) fun us s1 ⟨xs,H1,I1,r,z,q⟩=>⟨by rw[<- r.length];exact z,?_⟩);have hf:H1 s1.heap.objs.size=none:=I1.hok.fresh (qnr _);refine⟨.ref s1.heap.objs.size,upd H1 s1.heap.objs.size (.tup xs),I1.laid (t':=s1.toks) (fun b u e=>Heap.get?_push_of_some _ e) (qnr _) ?_,rfl,q _ hf⟩;exact⟨z,us,r,⟨_,Heap.get?_push_size _ rfl,rfl,_,rfl⟩⟩
theorem bF(h:PA X es t):PE X (.List es pos) (O6 t):=by
 intro pins s σ H Q I hq;refine wpAny_List_spliced (thn (h pos pins s σ H _ I hq) fun us s1 ⟨xs,H1,I1,r,z,q⟩=>⟨by rw[<- r.length];exact z,?_⟩);have hf:H1 s1.heap.objs.size=none:=I1.hok.fresh (qnr _);refine⟨.ref s1.heap.objs.size,upd H1 s1.heap.objs.size (.lst xs),I1.laid (t':=s1.toks) (fun b u e=>Heap.get?_push_of_some _ e) (qnr _) ?_,rfl,q _ hf⟩;exact⟨z,us,0,r,Heap.get?_push_size _ rfl⟩
end
abbrev Sp:=List V->Hp->VK->XK->Prop
abbrev CXT:=List Env->Hp->Shared->XK->Value->Shared->Prop
structure Env0(P:Program)(w:World)(K:W.Frag)(mg:Str->Option Value)(base:Heap)(A:Around)(outer:List Env)(s:Shared)(H:Hp):Prop where
 frames:A.frames=some outer
 mod:Mod K mg base
 bs:∀ b o,base.get? b=some o->s.heap.get? b=some o/\H b=none
 bsz:base.objs.size<=s.heap.objs.size
 funs:s.heap.FunFrames base outer
 frf:∀ b∈frs outer,H b=none
 hok:HOk P w H s.heap
 bare:AllBare s.gens
def CE(outer:List Env)(P:Program)(w:World)(H:Hp)(s:Shared)(Q:VK)(u:Value)(s':Shared):Prop :=
 ∃ v H',s'.os=s.os/\AllBare s'.gens/\Un (frs outer) [] H H' s.heap s'.heap/\HOk P w H' s'.heap/\RelV v u/\Q v H'
def CR(CX:CXT)(outer:List Env)(P:Program)(w:World)(H:Hp)(s:Shared)(Q:VK)(E:XK)(r:Result)(s':Shared):Prop :=
 match r with
 | .ok (.ret u)=>CE outer P w H s Q u s'
 | .ok _=>False
 | .error e=>CX outer H s E e s'
structure FnOk(P:Program)(w:World)(K:W.Frag)(mg:Str->Option Value)(base:Heap)(CX:CXT)(k:Nat)(f:Addr)(fd:FuncData)(ps:List Str)(sp:Sp):Prop where
 len:∀ vs H Q E,sp vs H Q E->vs.length=ps.length
 run:∀(A:Around)(outer:List Env)(s:Shared)(H:Hp)(args:Args)(us:List Value)(vs:List V)(Q:VK)(E:XK),Room k A->Env0 P w K mg base A outer s H->BindsTo s fd args (ps.zip us)->Vals vs us->sp vs H Q E ->
  codeAny (model P w) A (.call (.ref f) args) (CR CX outer P w H s Q E) s
theorem FnOk.mono{P:Program}{w:World}{K:W.Frag}{mg:Str->Option Value}{base:Heap}{CX:CXT}{j k:Nat}{f:Addr}{fd:FuncData}{ps:List Str}{sp:Sp}(F:FnOk P w K mg base CX j f fd ps sp)(h:j<=k):
  FnOk P w K mg base CX k f fd ps sp:=⟨F.len,fun A outer s H args us vs Q E hr=>F.run A outer s H args us vs Q E (hr.mono h)⟩
theorem FnOk.imp{P:Program}{w:World}{K:W.Frag}{mg:Str->Option Value}{base:Heap}{CX:CXT}{k:Nat}{f:Addr}{fd:FuncData}{ps:List Str}{sp sp':Sp}(F:FnOk P w K mg base CX k f fd ps sp)
  (h:∀ vs H Q E,sp' vs H Q E->sp vs H Q E):FnOk P w K mg base CX k f fd ps sp' :=
 ⟨fun vs H Q E q=>F.len vs H Q E (h _ _ _ _ q),fun A outer s H args us vs Q E hr he hb hv hs=>F.run A outer s H args us vs Q E hr he hb hv (h _ _ _ _ hs)⟩
theorem Env0.make{P:Program}{w:World}{K:W.Frag}{mg:Str->Option Value}{base:Heap}{A:Around}{outer:List Env}{s:Shared}{H:Hp}(e:Env0 P w K mg base A outer s H)(C:Addr)(us:List Value)(kw:List (Str×Value)):
  Env0 P w K mg base (A.under (.builtin "type.__call__" ⟨.ref C::us,kw⟩)) outer s H:=⟨by first|exact e.frames | (simpa[Around.under,Code.envs,Code.isFrame,pushEnvs]using e.frames),e.mod,e.bs,e.bsz,e.funs,e.frf,e.hok,e.bare⟩
section
variable{X:Cx}{pins:List (Addr×Obj)}{σ:St}{H:Hp}{s s':Shared}
theorem Inv.env0(I:Inv X pins σ H s):Env0 X.prog X.w X.K X.mg X.base X.A X.stack s H :=
 ⟨I.ok.frames,I.ok.mod,I.bs,qnt I.ok.bsz I.sz,I.stack,I.stkFree,I.hok,I.bare⟩
theorem Inv.after{Q:VK}{u:Value}(I:Inv X pins σ H s)(h:CE X.stack X.prog X.w H s Q u s'):EP X pins σ Q u s':=by
 obtain⟨v,H',os,bare,un,hok,r,q⟩:=h;obtain⟨hh,g,d,t,os'⟩:=s';obtain rfl:os'=s.os:=os;exact⟨v,H',I.call (h':=hh) (g':=g) (d':=d) (t':=t) (ch:=[]) un hok bare (fun b z=>absurd z (by simp)),r,q⟩
end
def Jg(sp:Sp)(dvs:List V)(E:XK)(t:TA):TE:=fun σ H Q=>t σ H fun vs H1=>sp (vs++dvs) H1 Q E
inductive iMeth(C:Addr)(m:Str)(x:V)(H:Hp)(R:Prop):Prop
 |mk (a dx:Addr) (fs:List (Str×V)) (_:x = .ref a) (_:H a=some (.ins C dx fs)) (_:fs.lookup m=none) (_:R)
def Jh(C:Addr)(m:Str)(sp:Sp)(dvs:List V)(E:XK)(ta:TE)(t:TA):TE:=fun σ H Q=>ta σ H fun x H1=>iMeth C m x H1 (t σ H1 fun vs H2=>sp (x::(vs++dvs)) H2 Q E)
def vI(C:Addr)(sp:Sp)(dvs:List V)(E:XK)(t:TA):TE:=fun σ H Q=>t σ H fun vs H1=>∀ x dx,H1 x=none->H1 dx=none->dx≠x ->
 sp (.ref x::(vs++dvs)) (upd (upd H1 dx (.own x)) x (.ins C dx [])) (fun v H2=>v = .non /\ Q (.ref x) H2) E
def Binds(K:W.Frag)(fd:FuncData)(ps:List Str)(ds:List Value):Prop :=
 ∀(s:Shared)(us:List Value),K.In s.heap->(us++ds).length=ps.length->BindsTo s fd ⟨us,[]⟩ (ps.zip (us++ds))
theorem Binds.all{K:W.Frag}{fd:FuncData}{ps:List Str}(h:∀ us:List Value,us.length=ps.length->bindArgs fd ⟨us,[]⟩=pure (ps.zip us)):Binds K fd ps []:=fun s us _ hl=>by
 rw[List.append_nil]at hl ⊢;exact .of_eq (h us hl)
def fK(CX:CXT)(X:Cx)(E:XK):Prop:=∀(pins:List (Addr×Obj))(σ:St)(H:Hp)(s:Shared)(e:Value)(s':Shared),Inv X pins σ H s->CX X.stack H s E e s'->X.xe e s'
section
variable{X:Cx}{CX:CXT}{k:Nat}{f C:Addr}{fd:FuncData}{ps:List Str}{sp:Sp}{dvs:List V}{ds:List Value}{E:XK}{x m:Str}{p pos apos:Pos}{e o:Expr}{es:List Expr}{ta:TE}{t:TA}
theorem rH{pins:List (Addr×Obj)}{σ:St}{H:Hp}{s:Shared}{Q:VK}{us:List Value}{vs:List V}(F:FnOk X.prog X.w X.K X.mg X.base CX k f fd ps sp)(hr:Room k X.A)(hb:Binds X.K fd ps ds)(hd:Vals dvs ds)(hx:fK CX X E)
  (I:Inv X pins σ H s) (r:Vals vs us) (h:sp (vs++dvs) H Q E):wpAny (model X.prog X.w) X.A (call (.ref f) us) (EP X pins σ Q) X.xe s:=by
 have r2:Vals (vs++dvs) (us++ds):=r.append hd;have hl:(us++ds).length=ps.length:=by rw[<- r2.length];exact F.len _ _ _ _ h
 refine wpAny_call (codeAny_mono (F.run X.A X.stack s H ⟨us,[]⟩ (us++ds) (vs++dvs) Q E hr I.env0 (hb s us I.kIn hl) r2 h) fun r s' hq=>?_);cases r with
 |error e=>exact hx pins σ H s e s' I hq
 | ok fl =>
  cases fl with
  |ret u=>exact I.after hq
  |next=>exact False.elim hq
  |brk=>exact False.elim hq
  |cont=>exact False.elim hq
theorem pQ(F:FnOk X.prog X.w X.K X.mg X.base CX k f fd ps sp)(hr:Room k X.A)(hg:Gl X x)(hm:X.mg x=some (.ref f))(hk:W.keepIn X.K (.ref f)=true)(hb:Binds X.K fd ps ds)(hd:Vals dvs ds)(hx:fK CX X E)
  (ha:PA X (e::es) t) (hdb:(x == ("__debug__":Str))=false:=by decide) (he:starEach (e::es) X.env=(false,eval e X.env):: starEach es X.env:=by rfl) (hpl:(backTo pos (starEach es X.env)).any (·.1)=false:=by rfl):
  PE X (.Call (.Name x p) (e::es) [] pos) (Jg sp dvs E t):=by
 intro pins s σ H Q I h;refine wpAny_Call_Name_kw (je I hg hm ?_ hdb);refine W.callWith_K (h₀:=X.base) I.ok.mod.kin hk (thn (ha pos pins s σ H _ I h) fun us s1 ⟨vs,H1,I1,r,q⟩=>⟨I1.kIn,?_⟩) he hpl;exact rH F hr hb hd hx I1 r q
theorem iC{pl:Sem Bool}(he:PE X o ta)(c:Cls X.K C)(hm:Meth X.K C m f)(F:FnOk X.prog X.w X.K X.mg X.base CX k f fd ps sp)(hr:Room k X.A)(hb:Binds X.K fd ps ds)(hd:Vals dvs ds)(hx:fK CX X E)(ha:PA X (e::es) t)
  (hst:starEach (e::es) X.env=(false,eval e X.env):: starEach es X.env:=by rfl) (hpl:(backTo pos (starEach es X.env)).any (·.1)=false:=by rfl)
  (ht:eval (.Call (.Attribute o m apos) (e::es) [] pos) X.env=(do
   let ov <- eval o X.env
   standAt apos.atName
   let (f,first) <- holding [ov] (getMethod ov m pl)
   callWith pos f first (backTo pos (starEach (e::es) X.env)) (backToKw pos (keywordEach [] X.env))):=by rfl):
  PE X (.Call (.Attribute o m apos) (e::es) [] pos) (Jh C m sp dvs E ta t):=by
 intro pins s σ H Q I h;refine W.methodCall_KW (pl:=pl) (thn (he pins s σ H _ I h) fun u s1 ⟨x,H1,I1,rx,a,dx,fs,ex,ea,l,q⟩=>?_) ht;subst ex;obtain rfl:u=Value.ref a:=rx;refine rG I1 ea c hm l ?_;refine W.callWith_K (first:=[.ref a]) (h₀:=X.base) I.ok.mod.kin hm.kp (thn (ha pos pins s1 σ H1 _ I1 q) fun us s2 ⟨vs,H2,I2,r,q2⟩=>⟨I2.kIn,?_⟩) hst hpl;exact rH (us:=.ref a::us) (vs:=.ref a::vs) F hr hb hd hx I2 (.cons rfl r) q2
theorem dz{pl:Sem Bool}(he:PE X o ta)(c:Cls X.K C)(hm:Meth X.K C m f)(F:FnOk X.prog X.w X.K X.mg X.base CX k f fd ps sp)(hr:Room k X.A)(hb:Binds X.K fd ps ds)(hd:Vals dvs ds)(hx:fK CX X E)
  (ht:eval (.Call (.Attribute o m apos) [] [] pos) X.env=(do
   let ov <- eval o X.env
   standAt apos.atName
   let (f,first) <- holding [ov] (getMethod ov m pl)
   callWith pos f first (backTo pos (starEach [] X.env)) (backToKw pos (keywordEach [] X.env))):=by rfl):
  PE X (.Call (.Attribute o m apos) [] [] pos) (Jh C m sp dvs E ta qC):=by
 intro pins s σ H Q I h;refine W.methodCall_KW (pl:=pl) (thn (he pins s σ H _ I h) fun u s1 ⟨x,H1,I1,rx,a,dx,fs,ex,ea,l,q⟩=>?_) ht;subst ex;obtain rfl:u=Value.ref a:=rx;refine rG I1 ea c hm l ?_;exact W.callWith_K0 (first:=[.ref a]) I1.kIn hm.kp (rH (us:=[.ref a]) (vs:=[.ref a]) F hr hb hd hx I1 (.cons rfl .nil) q)
structure Mk(K:W.Frag)(C f:Addr):Prop where
 makes:W.makesIn K C=true
 init:W.findIn K (.ref C) "__init__"=some (some (.ref f))
 fn:W.isFn K (.ref f)=true
 kp:W.keepIn K (.ref C)=true
theorem v4{pins:List (Addr×Obj)}{σ:St}{H:Hp}{s:Shared}{Q:VK}{us:List Value}{vs:List V}(M:Mk X.K C f)(F:FnOk X.prog X.w X.K X.mg X.base CX k f fd ps sp)(hr:Room (k+1) X.A)(hb:Binds X.K fd ps ds)(hd:Vals dvs ds)
  (hx:fK CX X E) (I:Inv X pins σ H s) (r:Vals vs us)
  (h:∀ x dx,H x=none->H dx=none->dx≠x->sp (.ref x::(vs++dvs)) (upd (upd H dx (.own x)) x (.ins C dx [])) (fun v H2=>v = .non /\ Q (.ref x) H2) E):
  wpAny (model X.prog X.w) X.A (call (.ref C) us) (EP X pins σ Q) X.xe s:=by
 have hq:=h (s.heap.objs.size+1) s.heap.objs.size (I.hok.fresh (Nat.le_succ _)) (I.hok.fresh (qnr _)) (Nat.ne_of_lt (Nat.lt_succ_self _));have I2:=Inv.made (C:=C) I;have r2:Vals (V.ref (s.heap.objs.size+1):: (vs++dvs)) (Value.ref (s.heap.objs.size+1):: (us++ds)):=.cons rfl (r.append hd)
 have hl:(Value.ref (s.heap.objs.size+1):: us++ds).length=ps.length:=by
  have e:=r2.length;rw[F.len _ _ _ _ hq]at e;exact e.symm
 refine wpAny_call (Gb (f:=f) I.kIn M.makes M.init (beq_iff_eq.mp M.fn) (codeAny_mono (F.run _ X.stack _ _ ⟨Value.ref (s.heap.objs.size+1):: us,[]⟩ (Value.ref (s.heap.objs.size+1):: (us++ds)) _ _ E (hr.make C us [])
  (I2.env0.make C us []) (hb _ (Value.ref (s.heap.objs.size+1):: us) I2.kIn hl) r2 hq) fun r s' hq'=>?_))
 cases r with
 |error e=>exact hx pins σ _ _ e s' I2 hq'
 | ok fl =>
  cases fl with
  | ret u =>
   obtain⟨v,H',I3,rv,ev,q3⟩:=I2.after hq';subst ev;exact⟨rv,⟨V.ref (s.heap.objs.size+1),H',I3,rfl,q3⟩⟩
  |next=>exact False.elim hq'
  |brk=>exact False.elim hq'
  |cont=>exact False.elim hq'
theorem JV(M:Mk X.K C f)(F:FnOk X.prog X.w X.K X.mg X.base CX k f fd ps sp)(hr:Room (k+1) X.A)(hg:Gl X x)(hm:X.mg x=some (.ref C))(hb:Binds X.K fd ps ds)(hd:Vals dvs ds)(hx:fK CX X E)
  (ha:PA X (e::es) t) (hdb:(x == ("__debug__":Str))=false:=by decide) (he:starEach (e::es) X.env=(false,eval e X.env):: starEach es X.env:=by rfl) (hpl:(backTo pos (starEach es X.env)).any (·.1)=false:=by rfl):
  PE X (.Call (.Name x p) (e::es) [] pos) (vI C sp dvs E t):=by
 intro pins s σ H Q I h;refine wpAny_Call_Name_kw (je I hg hm ?_ hdb);refine W.callWith_K (h₀:=X.base) I.ok.mod.kin M.kp (thn (ha pos pins s σ H _ I h) fun us s1 ⟨vs,H1,I1,r,q⟩=>⟨I1.kIn,?_⟩) he hpl;exact v4 M F hr hb hd hx I1 r q
theorem Gd(M:Mk X.K C f)(F:FnOk X.prog X.w X.K X.mg X.base CX k f fd ps sp)(hr:Room (k+1) X.A)(hg:Gl X x)(hm:X.mg x=some (.ref C))(hb:Binds X.K fd ps ds)(hd:Vals dvs ds)(hx:fK CX X E)
  (hdb:(x == ("__debug__":Str))=false:=by decide):PE X (.Call (.Name x p) [] [] pos) (vI C sp dvs E qC):=by
 intro pins s σ H Q I h;refine wpAny_Call_Name_kw (je I hg hm ?_ hdb);exact W.callWith_K0 I.kIn M.kp (v4 (us:=[]) M F hr hb hd hx I .nil h)
end
section
variable{X:Cx}{CX:CXT}{k:Nat}{f C:Addr}{fd:FuncData}{ps ks:List Str}{sp:Sp}{E:XK}{x m:Str}{p pos apos kpos:Pos}{e o:Expr}{es:List Expr}{kws:List Keyword}{te ta:TE}{t tk:TA}{nm:Option Str}
variable{g:List Value->List Value->List Value}{gV:List V->List V->List V}
end
structure FnScope(N P:List Str)(sc:Scope):Prop where
 kind:sc.kind = .function
 co:sc.isCoroutine=false
 gen:sc.isGenerator=false
 nd:N.Nodup
 pre:N.take P.length=P
 par:∀ x∈P,sc.names.lookup x=some .local \/ sc.names.lookup x=some .cell
 nofree:∀ y∈sc.names,y.2≠.free
theorem ndS{l:List Str}(h:l.Nodup:=by decide +kernel):l.Nodup:=h
theorem mkS{N P:List Str}{sc:Scope}(h1:sc.kind = .function:=by rfl)(h2:sc.isCoroutine=false:=by rfl)(h3:sc.isGenerator=false:=by rfl)(h4:N.Nodup:=by decide +kernel)(h5:N.take P.length=P:=by rfl)(h6:∀ x∈P,sc.names.lookup x=some .local \/ sc.names.lookup x=some .cell:=by decide +kernel)(h7:∀ y∈sc.names,y.2≠.free:=by decide +kernel):FnScope N P sc:=⟨h1,h2,h3,h4,h5,h6,h7⟩
theorem ux{kindOf:Str->Option NameKind}{x:Str}:∀{binds:List (Str×Value)}{m:Str->Option Value},(∀ v,(x,v)∉binds)->bindL kindOf binds m x=m x
 |[],_,_=>rfl
 | (n,v):: r,m,h=>by
  unfold bindL;rw[ux fun w hw=>h w (qmm _ hw)]
  split
  . have:x≠n:=by rintro rfl;exact h v qms
    simp[this]
  . rfl
theorem uy{kindOf:Str->Option NameKind}{x:Str}:∀{binds:List (Str×Value)}{m:Str->Option Value},(∀ v,(x,v)∉binds)->bindC kindOf binds m x=m x
 |[],_,_=>rfl
 | (n,v):: r,m,h=>by
  unfold bindC;rw[uy fun w hw=>h w (qmm _ hw)]
  split
  . rfl
  . have:x≠n:=by rintro rfl;exact h v qms
    simp[this]
theorem uz{kindOf:Str->Option NameKind}{x:Str}{v:Value}:∀{P:List Str}{vs:List Value}{i:Nat}{m:Str->Option Value},P.Nodup->P[i]? = some x->vs[i]? = some v->kindOf x=some .local ->
  bindL kindOf (P.zip vs) m x=some v
 |[],_,_,_,_,h,_,_=>by simp at h
 |_::_,[],_,_,_,_,h,_=>by simp at h
 | p::P,w::vs,0,m,nd,h1,h2,hk=>by
  simp at h1 h2;subst h1;subst h2;show bindL kindOf ((p,w):: P.zip vs) m p=_;unfold bindL;rw[ux fun v hv=>(List.nodup_cons.mp nd).1 (List.of_mem_zip hv).1,qp hk];simp
 | p::P,w::vs,i+1,m,nd,h1,h2,hk=>by
  show bindL kindOf ((p,w):: P.zip vs) m x=_;unfold bindL;exact uz (i:=i) (List.nodup_cons.mp nd).2 (by simpa using h1) (by simpa using h2) hk
theorem uA{kindOf:Str->Option NameKind}{x:Str}{v:Value}:∀{P:List Str}{vs:List Value}{i:Nat}{m:Str->Option Value},P.Nodup->P[i]? = some x->vs[i]? = some v->kindOf x≠some .local ->
  bindC kindOf (P.zip vs) m x=some v
 |[],_,_,_,_,h,_,_=>by simp at h
 |_::_,[],_,_,_,_,h,_=>by simp at h
 | p::P,w::vs,0,m,nd,h1,h2,hk=>by
  simp at h1 h2;subst h1;subst h2;show bindC kindOf ((p,w):: P.zip vs) m p=_;unfold bindC;rw[uy fun v hv=>(List.nodup_cons.mp nd).1 (List.of_mem_zip hv).1,qnZ hk];simp
 | p::P,w::vs,i+1,m,nd,h1,h2,hk=>by
  show bindC kindOf ((p,w):: P.zip vs) m x=_;unfold bindC;exact uA (i:=i) (List.nodup_cons.mp nd).2 (by simpa using h1) (by simpa using h2) hk
def start(N:List Str)(vs:List V):St:=vs.map some++List.replicate (N.length - vs.length) none
def bV(CX:CXT)(P:Program)(w:World)(K:W.Frag)(mg:Str->Option Value)(base:Heap)(N:List Str)(qual:Str)(scope:Scope)(f:Addr)(cd:Value)(A:Around)(outer:List Env)(s:Shared)(H:Hp)(E:XK):Cx where
 prog:=P
 w:=w
 K:=K
 mg:=mg
 base:=base
 A:=A.deeper (envOfC qual scope s.heap.objs.size f cd)
 N:=N
 s₀:=s
 H₀:=H
 env:=envOfC qual scope s.heap.objs.size f cd
 outer:=outer
 stack:=envOfC qual scope s.heap.objs.size f cd::outer
 ex:=[]
 calm:=true
 fn:=fun _=>true
 pn:=[]
 xe:=fun e s'=>wpAny (model P w) (A.deeper (envOfC qual scope s.heap.objs.size f cd)) (leaving (envOfC qual scope s.heap.objs.size f cd) e) (fun _ s''=>CX outer H s E e s'') (fun e' s''=>CX outer H s E e' s'') s'
theorem v5{sc:Scope}{n:Nat}{x:Str}(h:sc.names.lookup x=some .cell):∃ c,(cellsFrom n sc.names []).lookup x=some c:=by
 have q:=W.cellsFrom_some sc.names n [] (.inl h);exact Option.isSome_iff_exists.mp q
theorem Cz{CX:CXT}{P:Program}{w:World}{K:W.Frag}{mg:Str->Option Value}{base:Heap}{N ps:List Str}{qual:Str}{scope:Scope}{f:Addr}{cd:Value}{A:Around}{outer:List Env}{s s1:Shared}{H:Hp}{E:XK}{us:List Value}{vs:List V}
  (S:FnScope N ps scope) (hd:A.handled=none) (e0:Env0 P w K mg base A outer s H) (hl:vs.length=ps.length) (r:Vals vs us)
  (x:InCallC s s.heap.objs.size (bindL (envOfC qual scope s.heap.objs.size f cd).kindOf (ps.zip us) fun _=>none) (cellsFrom (s.heap.objs.size+1) scope.names []) (bindC (envOfC qual scope s.heap.objs.size f cd).kindOf (ps.zip us) fun _=>none) s1):
  Inv (bV CX P w K mg base N qual scope f cd A outer s H E) [] (start N vs) H s1:=by
 have hpl:ps.length<=N.length:=by have:=congrArg List.length S.pre;rw[List.length_take]at this;omega
 obtain⟨h1,tk,rfl,hk⟩:=x.done;have noA:∀ b:Addr,b∉(bV CX P w K mg base N qual scope f cd A outer s H E).ex:=fun b z=>absurd (show b∈([]:List Addr)from z) (by simp)
 refine⟨⟨e0.mod,S.kind,rfl,rfl,qnr _,fun y z c h1 h2=>?_,fun y hy=>?_,fun y c _ h=>?_,fun _=>hd,Around.frames_deeper e0.frames,.inr ⟨rfl,rfl⟩,fun b z=>absurd z (noA b),e0.bs,e0.bsz,fun b _ _=>noA b,fun b z=>absurd z (noA b),e0.funs,e0.frf⟩,
  rfl,e0.bare,Un.kept hk,⟨_,x.toInCall.ns,fun i y v h1 h2 h3=>?_⟩,fun y c h=>⟨_,x.cell y c h⟩,e0.hok.fresh (qnr _),fun y c h=>?_,fun p hp=>absurd (show p∈([]:List (Addr×Obj))from hp) (by simp),e0.hok.kept hk,?_⟩
 . exact name_of_addr x.apart (PySem.mem_of_lookup h1) (PySem.mem_of_lookup h2)
 . have hy:scope.names.lookup y=some .cell \/ scope.names.lookup y=some .free:=hy
   rcases hy with hy|hy
   . exact v5 hy
   . exact absurd rfl (S.nofree _ (PySem.mem_of_lookup hy))
 . exact Nat.le_of_lt (x.above y c (PySem.mem_of_lookup h))
 . have hi:i<vs.length:=by
    unfold start at h2
    by_cases hi:i<vs.length
    . exact hi
    . rw[List.getElem?_append_right (by simpa using hi)]at h2
      rw[List.getElem?_replicate]at h2
      split at h2 <;> cases h2
   have ha:vs[i]? = some v:=by
    unfold start at h2;rw[List.getElem?_append_left (by simpa using hi),qgm]at h2;cases e:vs[i]? with
    |none=>rw[e]at h2;cases h2
    |some a=>rw[e]at h2;cases h2;rfl
   obtain⟨u,hu,rv⟩:=r.get ha
   have hp:ps[i]? = some y:=by
    rw[<- S.pre,List.getElem?_take_of_lt (by omega)];exact h1
   have ndP:ps.Nodup:=by rw[<- S.pre];exact S.nd.sublist (List.take_sublist _ _)
   refine⟨u,rv,?_⟩;rcases S.par y (qmg hp)with k|k
   . exact .inl ⟨k,uz ndP hp hu k⟩
   . obtain⟨c,e⟩:=v5 (n:=s.heap.objs.size+1) k
     refine .inr ⟨.inl k,c,e,?_⟩;have q:=x.cell y c e;rw[uA ndP hp hu (by show scope.names.lookup y≠_;rw[k];decide)]at q;exact q
 . exact e0.hok.fresh (Nat.le_of_lt (x.above y c (PySem.mem_of_lookup h)))
 . unfold start
   show _=N.length;rw[List.length_append,qlm,List.length_replicate];omega
theorem Nv{CX:CXT}{P:Program}{w:World}{K:W.Frag}{mg:Str->Option Value}{base:Heap}{k:Nat}{f:Addr}{name qual:Str}{params:Arguments}{body:List Stmt}{scope:Scope}{dV kV doc pm cdv ct oc:Value}{an od:Option Addr}
  {osl:Array (Option Value)} {N ps:List Str} {sp:Sp} (lk:K.lookup f=some ⟨oc,od,.func (W.fnOf name qual params body scope dV kV doc pm an cdv ct),osl⟩) (hcd:W.codeIn K cdv qual=true) (S:FnScope N ps scope)
  (len:∀ vs H Q E,sp vs H Q E->vs.length=ps.length)
  (hbody:∀(A:Around)(outer:List Env)(s:Shared)(H:Hp)(vs:List V)(Q:VK)(E:XK),Room k (A.deeper (envOfC qual scope s.heap.objs.size f cdv))->sp vs H Q E ->
   ∃ t,PSs (bV CX P w K mg base N qual scope f cdv A outer s H E) body t/\t { nx:=fun _ H'=>Q .non H',rt:=Q } (start N vs) H):
  FnOk P w K mg base CX (k+1) f (W.fnOf name qual params body scope dV kV doc pm an cdv ct) ps sp:=by
 refine⟨len,fun A outer s H args us vs Q E hr e0 hb r hsp=>?_⟩;have hl:=len _ _ _ _ hsp;have KX:K.In s.heap:=e0.mod.kin.keeps fun b o e=>(e0.bs b o e).1
 have lim:s.heap.NoLimit:=e0.mod.nolimit.keeps fun b o e=>(e0.bs b o e).1
 have hkind:∀ y∈ps.zip us,scope.names.lookup y.1=some .local \/ (scope.names.lookup y.1=some .cell /\ ((cellsFrom (s.heap.objs.size+1) scope.names []).lookup y.1).isSome=true):=fun⟨n,v⟩ hy=>by
  rcases S.par n (List.of_mem_zip hy).1 with q|q
  . exact .inl q
  . exact .inr ⟨q,W.cellsFrom_some _ _ _ (.inl q)⟩
 refine codeAny_call_function hr.depth (KX _ _ lk) rfl S.co S.gen rfl (W.codeRec_of KX hcd) (hb _ _ _ _ ?_);refine wpAny_newFunctionEnv_cells S.kind hkind fun env he s1 x=>?_
 subst he;refine⟨lim.keeps x.toInCall.keep,codeAny_func ?_⟩;obtain⟨t,ht,hq⟩:=hbody A outer s H vs Q E (hr.deeper _) hsp;have I:Inv (bV CX P w K mg base N qual scope f cdv A outer s H E) [] (start N vs) H s1:=Cz S hr.hd e0 hl r x;refine wpAny_mono (ht [] s1 (start N vs) H _ I hq) (fun fl s' hs=>?_) fun e s' hs=>hs
 have fin:∀{σ':St}{H':Hp}{v:V}{u:Value},Inv (bV CX P w K mg base N qual scope f cdv A outer s H E) [] σ' H' s'->RelV v u->Q v H'->CE outer P w H s Q u s' :=
  fun {σ' H' v u} J rv q=>⟨v,H',J.os,J.bare,J.base,J.hok,rv,q⟩
 cases fl with
 | ret u =>
  obtain⟨v,σ',H',J,rv,q⟩:=hs;exact fin J rv q
 | next =>
  obtain⟨σ',H',J,q⟩:=hs;exact fin (v:=V.non) (u:=Value.none) J rfl q
 | brk =>
  obtain⟨_,_,_,q⟩:=hs;exact False.elim q
 | cont =>
  obtain⟨_,_,_,q⟩:=hs;exact False.elim q
end L2
namespace L2
open PySem PySem.Spec PyProof.Rows
section
variable{X:Cx}{x:Str}{p pos:Pos}{e:Expr}{es:List Expr}{t:TA}{id T:String}{r:List V->Hp->VK->Prop}
def tCB(r:List V->Hp->VK->Prop)(t:TA):TE:=fun σ H Q=>t σ H fun vs H1=>r vs H1 Q
theorem v6 (hc:eG X (.builtin id) r) (hg:Gl X x) (hm:X.mg x=none) (hv:bootBuiltins x=some (.builtin id)) (ha:PA X (e::es) t) (hn:x≠"__name__":=by decide) (hdb:(x == ("__debug__":Str))=false:=by decide)
  (he:starEach (e::es) X.env=(false,eval e X.env):: starEach es X.env:=by rfl) (hpl:(backTo pos (starEach es X.env)).any (·.1)=false:=by rfl):PE X (.Call (.Name x p) (e::es) [] pos) (tCB r t):=by
 intro pins s σ H Q I h;refine wpAny_Call_Name_kw (j7 I hg hm hv ?_ hn hdb);exact PyProof.Rows.callWith_builtin1 (thn (ha pos pins s σ H _ I h) fun us s1 ⟨vs,H1,I1,r1,q1⟩=>hc pins s1 σ H1 vs us Q I1 r1 q1) he hpl
theorem uB (hc:eG X (.type T) r) (hg:Gl X x) (hm:X.mg x=none) (hv:bootBuiltins x=some (.type T)) (ha:PA X (e::es) t) (hn:x≠"__name__":=by decide) (hdb:(x == ("__debug__":Str))=false:=by decide)
  (he:starEach (e::es) X.env=(false,eval e X.env):: starEach es X.env:=by rfl) (hpl:(backTo pos (starEach es X.env)).any (·.1)=false:=by rfl):PE X (.Call (.Name x p) (e::es) [] pos) (tCB r t):=by
 intro pins s σ H Q I h;refine wpAny_Call_Name_kw (j7 I hg hm hv ?_ hn hdb);exact PyProof.Rows.callWith_type1 (thn (ha pos pins s σ H _ I h) fun us s1 ⟨vs,H1,I1,r1,q1⟩=>hc pins s1 σ H1 vs us Q I1 r1 q1) he hpl
end
end L2
namespace HT
open PySem PyProof.Rows
section
open PySem.SeqAt
open PySem.AutoSeq1 (wpAny_loadPart')
open PySem.MeetsSeq PySem.MeetsSeq2 PySem.MeetsSeq3
end
section
variable{prog:Program}{w:World}{A:Around}{E:Value->Shared->Prop}{s:Shared}
def sIx(n d:Nat):Option Int->Nat
 |none=>d
 |some v=>if v<0 then(v+(n:Int)).toNat else min v.toNat n
theorem sIx_le(n d:Nat)(hd:d<=n)(o:Option Int):sIx n d o<=n:=by
 cases o with
 |none=>exact hd
 | some v =>
  show(if v<0 then(v+(n:Int)).toNat else min v.toNat n)<=n
  by_cases hv:v<0
  . rw[qp hv];omega
  . rw[qnZ hv];exact Nat.min_le_right _ _
theorem yq(v:Int)(n d:Nat):(if v<0 then max (v+(n:Int)) 0 else min v (n:Int))=((sIx n d (some v):Nat):Int):=by
 show(if v<0 then max (v+(n:Int)) 0 else min v (n:Int))=(((if v<0 then(v+(n:Int)).toNat else min v.toNat n):Nat):Int)
 by_cases hv:v<0
 . simp only[qp hv];omega
 . simp only[qnZ hv];omega
theorem Al(lo hi:Option Int)(n:Nat):Builtin.Slice.sliceAdjust lo hi 1 (n:Int)=(((sIx n 0 lo:Nat):Int),((sIx n n hi:Nat):Int)):=by
 have h1:¬ ((1:Int)<0):=by omega
 unfold Builtin.Slice.sliceAdjust;simp only[h1,if_false];refine Prod.ext ?_ ?_
 . cases lo with
   |none=>rfl
   |some v=>exact yq v n 0
 . cases hi with
   |none=>rfl
   |some v=>exact yq v n n
theorem Am(i j:Nat):Builtin.Slice.slicePlaces (i:Int) (j:Int) 1=j - i:=by
 unfold Builtin.Slice.slicePlaces;have h1:(1:Int) > 0:=by omega
 simp only[h1,if_true,Int.ediv_one]
 split <;> omega
theorem rJ{v:Value}{o:Option Int}{Q:Option Int->Shared->Prop}(p:IsPart v o)(h:Q o s):wpAny (model prog w) A (Builtin.Slice.slicePartIndex v) Q E s:=by
 cases p with
 |none=>exact slicePart_none h
 |int i t=>exact slicePart_int h
theorem qD{sl:Addr}{vl vu:Value}{lo hi:Option Int}{n:Nat}{Q:Int×Int×Nat->Shared->Prop}(hs:s.heap.IsSliceOf sl vl vu .none)(pl:IsPart vl lo)(pu:IsPart vu hi)
  (h:Q (((sIx n 0 lo:Nat):Int),1,sIx n n hi - sIx n 0 lo) s):wpAny (model prog w) A (Builtin.Slice.sliceApplied (.ref sl) (pure (n:Int))) Q E s:=by
 obtain⟨os,hos,hcs,hds⟩:=id hs;unfold Builtin.Slice.sliceApplied Builtin.Slice.sliceFields;refine wpAny_bind (wpAny_bind (wpAny_field hos hds (x:=vl) rfl (wpAny_bind (wpAny_field hos hds (x:=vu) rfl (wpAny_bind (wpAny_field hos hds (x:=.none) rfl (wpAny_pure ?_)))))));refine wpAny_bind (slicePart_none ?_);show wpAny _ _ (if ((1:Int) == 0)=true then _ else _) _ _ s;rw[qnZ (by decide)];refine wpAny_bind (rJ pl (wpAny_bind (rJ pu (wpAny_bind (wpAny_pure ?_)))));show wpAny _ _ (match Builtin.Slice.sliceAdjust lo hi 1 (n:Int)with | (lo,hi)=>pure (lo,(1:Int),Builtin.Slice.slicePlaces lo hi 1)) _ _ s;rw[Al lo hi n];show wpAny _ _ (pure (((sIx n 0 lo:Nat):Int),(1:Int),Builtin.Slice.slicePlaces ((sIx n 0 lo:Nat):Int) ((sIx n n hi:Nat):Int) 1)) _ _ s;rw[Am];exact wpAny_pure h
theorem Ge(xs:Array Value)(i k:Nat):((List.range k).filterMap fun(m:Nat)=>xs[((i:Int)+(m:Int) * 1).toNat]?).toArray=((xs.toList.drop i).take k).toArray:=by
 have e:(fun(m:Nat)=>xs[((i:Int)+(m:Int) * 1).toNat]?)=fun m=>xs[i+m]?:=by
  funext m
  have:((i:Int)+(m:Int) * 1).toNat=i+m:=by omega
  rw[this]
 rw[e];have:=pick_run xs i k;rw[List.filterMap_map]at this;have e2:((fun x=>xs[x]?) ∘ fun x=>i+x)=fun m=>xs[i+m]?:=rfl
 rw[e2]at this;rw[this]
theorem getItem_tuple_cut{t sl:Addr}{items:Array Value}{vl vu:Value}{lo hi:Option Int}{Q:Value->Shared->Prop}(ht:IsTup s.heap t items)(hs:s.heap.IsSliceOf sl vl vu .none)(pl:IsPart vl lo)(pu:IsPart vu hi)
  (hw:¬ (sIx items.size 0 lo=0/\sIx items.size items.size hi=items.size))
  (h:Q (.ref s.heap.objs.size) { s with heap:=s.heap.push { cls:=.type "tuple",data:=.seq ((items.toList.drop (sIx items.size 0 lo)).take (sIx items.size items.size hi - sIx items.size 0 lo)).toArray } })
  (hsz:items.size<=sizeLine):wpAny (model prog w) A (getItem (.ref t) (.ref sl)) Q E s:=by
 have htake:sizeOk (.seq ((items.toList.drop (sIx items.size 0 lo)).take (sIx items.size items.size hi - sIx items.size 0 lo)).toArray):=by
  show((items.toList.drop (sIx items.size 0 lo)).take (sIx items.size items.size hi - sIx items.size 0 lo)).toArray.size<=sizeLine;rw[List.size_toArray,List.length_take,List.length_drop,Array.length_toList];omega
 have hj:sIx items.size items.size hi<=items.size:=sIx_le _ _ (qnr _) hi;obtain⟨os,hos,hcs,hds⟩:=id hs;have hTs:s.TypeIs (.ref sl) "slice":=⟨os,hos,hcs⟩
 unfold getItem
 try with_reducible refine wpAny_holding ?_
 first|refine wpAny_bind (wpAny_pure ?_)|skip
 refine wpAny_bind (wpAny_sequenceKey ht.typeIs (by decide) ?_)
 refine wpAny_bind (wpAny_callSpecial?_slot (name:=Str.ofString "__getitem__") ht.typeIs PyProof.Rows.slot_tuple_getitem
  (wpAny_call_entry PyProof.Rows.slot_tuple_getitem ht.typeIs entry_tuple_getitem ?_ (args_tuple_getitem _ _)))
 show wpAny _ _ (Builtin.Tuple.tupleItemsOf (.ref t) >>= _) _ _ s;refine wpAny_bind (tupleItemsOf_ ht ?_);refine wpAny_bind (wpAny_typeOf hTs ?_);rw[qp (by decide)];refine wpAny_bind (qD hs pl pu ?_)
 have hno:¬ ((((sIx items.size 0 lo:Nat):Int) == 0 && (1:Int) == 1 && (sIx items.size items.size hi - sIx items.size 0 lo) == items.size)=true):=by
  intro q;rw[Bool.and_eq_true,Bool.and_eq_true]at q;have q1:((sIx items.size 0 lo:Nat):Int)=0:=eq_of_beq q.1.1;have q2:sIx items.size items.size hi - sIx items.size 0 lo=items.size:=eq_of_beq q.2;exact hw ⟨by omega,by omega⟩
 show wpAny _ _ (if (((sIx items.size 0 lo:Nat):Int) == 0 && (1:Int) == 1 && (sIx items.size items.size hi - sIx items.size 0 lo) == items.size)=true then _ else _) _ _ s;rw[qnZ hno,Ge]
 first
  |exact wpAny_bind (m:=Builtin.Tuple.tupleExact _) (wpAny_newObj_type (wpAny_pure ⟨_,rfl,wpAny_pure h⟩) htake)
  |exact wpAny_bind (m:=Builtin.Tuple.tupleExact _) (wpAny_newObj_type (wpAny_bind (wpAny_pure (wpAny_pure ⟨_,rfl,wpAny_pure h⟩))) htake)
  |exact wpAny_bind (wpAny_bind (m:=Builtin.Tuple.tupleExact _) (wpAny_newObj_type (wpAny_pure (wpAny_pure ⟨_,rfl,wpAny_pure h⟩)) htake))
  |exact wpAny_bind (wpAny_bind (m:=Builtin.Tuple.tupleExact _) (wpAny_newObj_type (wpAny_pure ⟨_,rfl,wpAny_pure h⟩) htake))
end
end HT
namespace L2
open PySem PySem.Spec PyProof.Rows
abbrev TO:=St->Hp->(Option Int->Hp->Prop)->Prop
def PO(X:Cx)(e:Option Expr)(t:TO):Prop :=
 ∀(pins:List (Addr×Obj))(s:Shared)(σ:St)(H:Hp)(Q:Option Int->Hp->Prop),Inv X pins σ H s->t σ H Q ->
  wpAny (model X.prog X.w) X.A (evalPart e X.env) (fun u s'=>∃ o H',Inv X pins σ H' s'/\IsPart u o/\Q o H') X.xe s
def JW:TO:=fun _ H Q=>Q none H
def Nx(t:TE):TO:=fun σ H Q=>t σ H fun x H1=>∃ i,x = .int i/\Q (some i) H1
theorem intsAre_of{ns:List Int}:∀{us:List Value},Vals (ns.map V.int) us->IntsAre us ns:=by
 induction ns with
 |nil=>intro us r;rw[List.map_nil]at r;cases r;exact .nil
 | cons n ns ih =>
  intro us r;rw[List.map_cons]at r;cases r with
  | cons r1 r2 =>
   obtain⟨t,e⟩:=r1;subst e;exact .cons n t (ih r2)
section
variable{X:Cx}{e:Expr}{te:TE}{lo hi:Option Expr}{tl th:TO}{pos p2:Pos}
theorem jY:PO X none JW:=by
 intro pins s σ H Q I h;rw[evalPart_none];exact wpAny_pure ⟨none,H,I,.none,h⟩
theorem iD(h:PE X e te):PO X (some e) (Nx te):=by
 intro pins s σ H Q I hw;rw[evalPart_some];refine thn (h pins s σ H _ I hw) fun u s1 ⟨x,H1,I1,r1,q1⟩=>?_
 obtain⟨i,rfl,q⟩:=q1;obtain⟨t,rfl⟩:=r1;exact⟨some i,H1,I1,.int i t,q⟩
def SlR(X:Cx)(r:V->Option Int->Option Int->Hp->VK->Prop):Prop :=
 ∀(pins:List (Addr×Obj))(s:Shared)(σ:St)(H:Hp)(x:V)(v vl vu:Value)(lo hi:Option Int)(sl:Addr)(Q:VK),Inv X pins σ H s->RelV x v->s.heap.IsSliceOf sl vl vu .none -> IsPart vl lo->IsPart vu hi->r x lo hi H Q ->
  ∃ T id,typeLookup (.type T) "__getitem__"=pure (some (.builtin id))/\s.TypeIs v T/\wpAny (model X.prog X.w) X.A (getItem v (.ref sl)) (EP X pins σ Q) X.xe s
def tSl(r:V->Option Int->Option Int->Hp->VK->Prop)(te:TE)(tl th:TO):TE:=fun σ H Q=>te σ H fun x H1=>tl σ H1 fun l H2=>th σ H2 fun u H3=>r x l u H3 Q
theorem ie{r:V->Option Int->Option Int->Hp->VK->Prop}(hr:SlR X r)(he:PE X e te)(hl:PO X lo tl)(hu:PO X hi th):PE X (.Subscript e (.Slice lo hi none p2) pos) (tSl r te tl th):=by
 intro pins s σ H Q I h;refine Subscript_ (thn (he pins s σ H _ I h) fun v s1 ⟨x,H1,I1,r1,q1⟩=>?_);refine wpAny_Slice (thn (hl pins s1 σ H1 _ I1 q1) fun vl s2 ⟨l,H2,I2,pl,q2⟩=>thn (hu pins s2 σ H2 _ I2 q2) fun vu s3 ⟨u,H3,I3,pu,q3⟩=>?_);rw[evalPart_none];refine wpAny_pure ?_;have I4:Inv X pins σ H3 { s3 with heap:=s3.heap.push { cls:=.type "slice",data:=.fields #[vl,vu,.none] } }:=I3.kept (t':=s3.toks) fun b ob q=>Heap.get?_push_of_some _ q
 obtain⟨T,id,hT,ht,hg⟩:=hr pins { s3 with heap:=s3.heap.push { cls:=.type "slice",data:=.fields #[vl,vu,.none] } } σ H3 x v vl vu l u s3.heap.objs.size Q I4 r1 (Heap.IsSliceOf.new ..) pl pu q3;show wpAny (model X.prog X.w) X.A (subscriptTail e (.Slice lo hi none p2) v (.ref s3.heap.objs.size)) (EP X pins σ Q) X.xe { s3 with heap:=s3.heap.push { cls:=.type "slice",data:=.fields #[vl,vu,.none] } };exact tail_any (ops:=[.ref s3.heap.objs.size,v]) ht hT hg (by with_unfolding_all rfl)
def ig(xs:List V)(lo hi:Option Int):List V:=(xs.drop (HT.sIx xs.length 0 lo)).take (HT.sIx xs.length xs.length hi - HT.sIx xs.length 0 lo)
theorem qe(xs:List V)(lo hi:Option Int):(ig xs lo hi).length <= xs.length:=by
 unfold ig;rw[List.length_take,List.length_drop];omega
def O7(K:W.Frag):V->Option Int->Option Int->Hp->VK->Prop:=fun x lo hi H Q=>∃ a xs,x = .ref a/\SqT K H a xs /\
 ¬ (HT.sIx xs.length 0 lo=0/\HT.sIx xs.length xs.length hi=xs.length)/\∀ p,H p=none->Q (.ref p) (upd H p (.tup (ig xs lo hi)))
theorem Lq:SlR X (O7 X.K):=by
 intro pins s σ H x v vl vu lo hi sl Q I rx hs pl pu h;obtain⟨a,xs,rfl,hx,hw,q⟩:=h;cases rx;obtain⟨its,r,ht,hz⟩:=I.tuple hx;have hlen:its.toArray.size=xs.length:=by rw[List.size_toArray];exact r.length.symm
 refine⟨"tuple",_,PyProof.Rows.slot_tuple_getitem.lookup,ht.typeIs,?_⟩;refine HT.getItem_tuple_cut ht hs pl pu (by rw[hlen];exact hw) ?_ (by rw[hlen];exact hz);rw[hlen];refine⟨.ref s.heap.objs.size,_,I.laid (t':=s.toks) (o:=.tup (ig xs lo hi)) (fun b ob q=>Heap.get?_push_of_some _ q) (qnr _) ?_,rfl,q _ (I.hok.fresh (qnr _))⟩;exact⟨qnt (qe xs lo hi) hz,_,(r.drop (HT.sIx xs.length 0 lo)).take (HT.sIx xs.length xs.length hi - HT.sIx xs.length 0 lo),IsTupP.new _ _⟩
theorem Vals.nil_iff{xs:List V}{us:List Value}(r:Vals xs us):us=[]↔xs=[]:=by
 cases r with
 |nil=>simp
 |cons _ _=>simp
end
end L2
namespace L2
open PySem PySem.Spec PyProof.Rows
def ixN(n:Nat)(i:Int):Option Nat:=if 0<=i then(if i<n then some i.toNat else none)else if -(n:Int)<=i then some (i+n).toNat else none
def atI{α:Type}(xs:List α)(i:Int):Option α:=(ixN xs.length i).bind fun j=>xs[j]?
theorem JX{n:Nat}{i:Int}{j:Nat}(h:ixN n i=some j):seqIndex? i n=some j/\j<n/\-(n:Int)<=i/\i<n:=by
 unfold ixN at h
 by_cases h0:0<=i
 . rw[qp h0]at h
   by_cases h1:i<n
   . rw[qp h1]at h
     have e:i.toNat=j:=qsi h;exact⟨by rw[seqIndex_of h0 h1,e],by omega,by omega,h1⟩
   . rw[qnZ h1]at h;cases h
 . rw[qnZ h0]at h
   by_cases h1 : -(n:Int)<=i
   . rw[qp h1]at h
     have e:(i+n).toNat=j:=qsi h;exact⟨by rw[seqIndex_neg (by omega) h1,e],by omega,h1,by omega⟩
   . rw[qnZ h1]at h;cases h
theorem tH{α:Type}{xs:List α}{i:Int}{v:α}(h:atI xs i=some v):∃ j,seqIndex? i xs.length=some j/\xs[j]? = some v/\j<xs.length/\-(xs.length:Int)<=i/\i<xs.length:=by
 unfold atI at h;cases e:ixN xs.length i with
 |none=>rw[e]at h;cases h
 | some j =>
  rw[e]at h;obtain⟨h1,h2,h3,h4⟩:=JX e;exact⟨j,h1,h,h2,h3,h4⟩
theorem b8{α:Type}{xs:List α}{j:Nat}{v:α}(h:xs[j]? = some v):atI xs (j:Int)=some v:=by
 have hj:j<xs.length:=(List.getElem?_eq_some_iff.mp h).1
 have e:ixN xs.length (j:Int)=some j:=by
  unfold ixN;rw[qp (by omega),qp (by omega)];simp
 unfold atI;rw[e];exact h
theorem mX{α:Type}(xs:List α)(v:α):atI (xs++[v]) (-1)=some v:=by
 have hl:(xs++[v]).length=xs.length+1:=by simp
 have e:ixN (xs++[v]).length (-1)=some xs.length:=by
  unfold ixN;rw[hl,qnZ (by decide),qp (by omega)]
  congr 1
  omega
 unfold atI;rw[e];show(xs++[v])[xs.length]? = some v;simp
def yr(b:Expr):Prop:=∀ o i,subscripted b false o i=operate [o,i] (getItem o i)
def IxR(X:Cx)(r:R2):Prop :=
 ∀(value slice:Expr)(pins:List (Addr×Obj))(s:Shared)(σ:St)(H:Hp)(x y:V)(v u:Value)(Q:VK),Inv X pins σ H s->RelV x v->RelV y u->r x y H Q ->
  subscripted slice false v u=operate [v,u] (getItem v u)->wpAny (model X.prog X.w) X.A (subscriptTail value slice v u) (EP X pins σ Q) X.xe s
def MtR(X:Cx)(id:String)(r:V->List V->Hp->VK->Prop):Prop :=
 ∀(pins:List (Addr×Obj))(s:Shared)(σ:St)(H:Hp)(x:V)(xs:List V)(v:Value)(us:List Value)(Q:VK),Inv X pins σ H s->RelV x v->Vals xs us->r x xs H Q ->
  wpAny (model X.prog X.w) X.A (call (.builtin id) (v::us)) (EP X pins σ Q) X.xe s
section
variable{X:Cx}{a b:Expr}{ta tb:TE}{pos:Pos}
theorem Ny{r:R2}(hr:IxR X r)(ha:PE X a ta)(hb:PE X b tb)(hs:yr b):PE X (.Subscript a b pos) (tOp r ta tb):=by
 intro pins s σ H Q I h;exact Subscript_ (FW ha hb I h fun v u s2 x y H2 I2 rx ry q=>hr a b pins s2 σ H2 x y v u Q I2 rx ry q (hs _ _))
theorem pix{r:R2}(hr:IxR X r)(ha:PE X a ta)(hb:PE X b tb)(hs:yr b:=by exact fun _ _=>rfl):PE X (.Subscript a b pos) (tOp r ta tb):=Ny hr ha hb hs
inductive rIxL(K:W.Frag)(x:V)(y:V)(H:Hp)(Q:VK):Prop
 |mk (p xs i v) (_:x = .ref p) (_:y = .int i) (_:SqL K H p xs) (_:atI xs i=some v) (_:Q v H)
inductive rIxT(K:W.Frag)(x:V)(y:V)(H:Hp)(Q:VK):Prop
 |mk (p xs i v) (_:x = .ref p) (_:y = .int i) (_:SqT K H p xs) (_:atI xs i=some v) (_:Q v H)
inductive rIxS(x:V)(y:V)(H:Hp)(Q:VK):Prop
 |mk (z i c) (_:x = .str z) (_:y = .int i) (_:z.length<=sizeLine) (_:atI z.cps.toList i=some c) (_:Q (.str ⟨#[c]⟩) H)
theorem cg:IxR X (rIxL X.K):=by
 intro value slice pins s σ H x y v u Q I rx ry h hs;obtain⟨p,xs,i,z,rfl,rfl,hq,he,q⟩:=h;cases rx;obtain⟨t,rfl⟩:=ry;obtain⟨its,r,pl,hz⟩:=I.list hq;obtain⟨j,h1,h2,h3,h4,h5⟩:=tH he;obtain⟨w,ew,rw'⟩:=r.get h2;have hl:=r.length;have hn:=mF;have fin:EP X pins σ Q w s:=⟨z,H,I,rw',q⟩
 by_cases h0:0<=i
 . have hj:i.toNat=j:=by
    rw[seqIndex_of h0 h5]at h1;exact qsi h1
   exact item_listR pl.isList h0 (by omega) (by rw[hj];simpa using ew) fin hs
 . have hj:(i+(its.toArray.size:Int)).toNat=j:=by
    rw[seqIndex_neg (by omega) h4]at h1;rw[List.size_toArray,<- hl];exact qsi h1
   exact subscriptTail_builtinR (x:=w) pl.isList.typeIs slot_list_getitem.lookup
    (wpAny_getItem_list_neg (Q:=fun r s'=>r=w/\EP X pins σ Q r s') pl.isList (by omega) (by rw[List.size_toArray] <;> omega) (by omega) (by rw[hj];simpa using ew) ⟨rfl,fin⟩) hs
theorem aK:IxR X (rIxT X.K):=by
 intro value slice pins s σ H x y v u Q I rx ry h hs;obtain⟨p,xs,i,z,rfl,rfl,hq,he,q⟩:=h;cases rx;obtain⟨t,rfl⟩:=ry;obtain⟨its,r,pl,hz⟩:=I.tuple hq;obtain⟨j,h1,h2,h3,h4,h5⟩:=tH he;obtain⟨w,ew,rw'⟩:=r.get h2;have hl:=r.length;have hn:=mF;have fin:EP X pins σ Q w s:=⟨z,H,I,rw',q⟩
 exact subscriptTail_builtinR (x:=w) pl.typeIs slot_tuple_getitem.lookup
  (getItem_tuple (j:=j) (Q:=fun r s'=>r=w/\EP X pins σ Q r s') pl (by omega) (by omega) (by rw[List.size_toArray,<- hl];exact h1) (by simpa using ew) ⟨rfl,fin⟩) hs
theorem oE:IxR X rIxS:=by
 intro value slice pins s σ H x y v u Q I rx ry h hs;obtain⟨z,i,c,rfl,rfl,hz,he,q⟩:=h;obtain⟨t,rfl⟩:=rx;obtain⟨t',rfl⟩:=ry;obtain⟨j,h1,h2,h3,h4,h5⟩:=tH he;have hl:z.cps.toList.length=z.length:=by simp[Str.length]
 rw[hl]at h1 h4 h5;have hn:=mF
 exact tail_any (typeIs_str s z t) slot_str_getitem.lookup (getItem_str (c:=c) (by
  have e1:decide (i < -(2 ^ 63:Int))=false:=qdf (by omega);have e2:decide (i ≥ 2 ^ 63)=false:=qdf (by omega)
  rw[e1,e2,Bool.or_false]) (by rw[h1];simpa using h2) ⟨.str ⟨#[c]⟩,H,I.tok _,⟨_,rfl⟩,q⟩) hs
theorem v7(lo hi:Option Int)(n:Nat):(sliceBounds lo hi none n).1=((HT.sIx n 0 lo:Nat):Int)/\(sliceBounds lo hi none n).2.1=((HT.sIx n n hi:Nat):Int)/\(sliceBounds lo hi none n).2.2=1:=by
 refine⟨?_,?_,rfl⟩
 . cases lo with
   |none=>simp[sliceBounds,HT.sIx]
   | some i =>
    simp only[sliceBounds,HT.sIx,Option.getD_none,show(1:Int) > 0 by decide,if_true]
    by_cases h:i<0
    . simp only[h,if_true] <;> omega
    . simp only[h,if_false] <;> omega
 . cases hi with
   |none=>simp[sliceBounds,HT.sIx]
   | some i =>
    simp only[sliceBounds,HT.sIx,Option.getD_none,show(1:Int) > 0 by decide,if_true]
    by_cases h:i<0
    . simp only[h,if_true] <;> omega
    . simp only[h,if_false] <;> omega
theorem vz(its:List Value)(lo hi:Option Int):slicePick its.toArray lo hi none=((its.drop (HT.sIx its.length 0 lo)).take (HT.sIx its.length its.length hi - HT.sIx its.length 0 lo)).toArray:=by
 obtain⟨h1,h2,h3⟩:=v7 lo hi its.toArray.size;unfold slicePick;rw[h1,h2,h3];simp only[sliceRange_one,pick_run,List.size_toArray] <;> rfl
def O8(K:W.Frag):V->Option Int->Option Int->Hp->VK->Prop:=fun x lo hi H Q=>∃ a xs,x = .ref a/\SqL K H a xs/\∀ p,H p=none->Q (.ref p) (upd H p (.lst (ig xs lo hi)))
theorem tK:SlR X (O8 X.K):=by
 intro pins s σ H x v vl vu lo hi sl Q I rx hs pl pu h;obtain⟨a,xs,rfl,hx,q⟩:=h;cases rx;obtain⟨its,r,ht,hz⟩:=I.list hx;have hlen:=r.length;refine⟨"list",_,slot_list_getitem.lookup,ht.isList.typeIs,?_⟩;refine wpAny_getItem_list_slice ht.isList hs pl pu .none (by simp) ?_ (by rw[List.size_toArray] <;> omega);rw[vz,<- hlen];refine⟨.ref s.heap.objs.size,_,I.laid (t':=s.toks) (o:=.lst (ig xs lo hi)) (fun b ob q=>Heap.get?_push_of_some _ q) (qnr _) ?_,rfl,q _ (I.hok.fresh (qnr _))⟩;exact⟨qnt (qe xs lo hi) hz,_,0,(r.drop (HT.sIx xs.length 0 lo)).take (HT.sIx xs.length xs.length hi - HT.sIx xs.length 0 lo),Heap.get?_push_size _ rfl⟩
def eY:V->Bool
 | .non=>true
 | .bl _=>true
 | .int _=>true
 | .str _=>true
 |_=>false
def eqV:V->V->Bool
 | .non,.non=>true
 | .bl a,.bl b=>a == b
 | .bl a,.int b=>(if a then 1 else 0) == b
 | .int a,.bl b=>a == (if b then 1 else 0)
 | .int a,.int b=>a == b
 | .str a,.str b=>a == b
 |_,_=>false
theorem Lr{A:Around}{s:Shared}{y x:V}{u v:Value}(ry:RelV y u)(rx:RelV x v)(fy:eY y=true)(fx:eY x=true):SeqAt.EqAt A s u v (eqV y x):=by
 cases y with
 | non =>
  cases ry;cases x with
  |non=>cases rx;exact SeqAt.EqAt.same _
  |bl b=>cases rx;exact SeqAt.EqAt.none_bool b
  |int b=>obtain⟨t,rfl⟩:=rx;exact SeqAt.EqAt.none_int b t
  |str b=>obtain⟨t,rfl⟩:=rx;exact SeqAt.EqAt.none_str b t
  |_=>exact absurd (show false=true from fx) qbf
 | bl a =>
  cases ry;cases x with
  |non=>cases rx;exact SeqAt.EqAt.bool_none a
  |bl b=>cases rx;exact SeqAt.EqAt.bool_bool a b
  |int b=>obtain⟨t,rfl⟩:=rx;exact SeqAt.EqAt.bool_int a b t
  |str b=>obtain⟨t,rfl⟩:=rx;exact SeqAt.EqAt.bool_str a b t
  |_=>exact absurd (show false=true from fx) qbf
 | int a =>
  obtain⟨t',rfl⟩:=ry;cases x with
  |non=>cases rx;exact SeqAt.EqAt.int_none a t'
  |bl b=>cases rx;exact SeqAt.EqAt.int_bool a t' b
  |int b=>obtain⟨t,rfl⟩:=rx;exact SeqAt.EqAt.int_int a t' b t
  |str b=>obtain⟨t,rfl⟩:=rx;exact SeqAt.EqAt.int_str a t' b t
  |_=>exact absurd (show false=true from fx) qbf
 | str a =>
  obtain⟨t',rfl⟩:=ry;cases x with
  |non=>cases rx;exact SeqAt.EqAt.str_none a t'
  |bl b=>cases rx;exact SeqAt.EqAt.str_bool a t' b
  |int b=>obtain⟨t,rfl⟩:=rx;exact SeqAt.EqAt.str_int a t' b t
  |str b=>obtain⟨t,rfl⟩:=rx;exact SeqAt.EqAt.str_str a t' b t
  |_=>exact absurd (show false=true from fx) qbf
 |_=>exact absurd (show false=true from fy) qbf
def eqU(x:V)(u:Value):Bool:=match u with
 | .none=>eqV .non x
 | .bool b=>eqV (.bl b) x
 | .int i _=>eqV (.int i) x
 | .str z _=>eqV (.str z) x
 |_=>false
theorem rK{x y:V}{u:Value}(r:RelV y u)(f:eY y=true):eqU x u=eqV y x:=by
 cases y with
 |non=>cases r;rfl
 |bl b=>cases r;rfl
 |int i=>obtain⟨t,rfl⟩:=r;rfl
 |str z=>obtain⟨t,rfl⟩:=r;rfl
 |_=>exact absurd (show false=true from f) qbf
theorem mG{x:V}:∀{xs:List V}{us:List Value},Vals xs us->xs.all eY=true->us.any (eqU x)=xs.any fun y=>eqV y x
 |_,_,.nil,_=>rfl
 | y::xs,u::us,.cons r t,f=>by
  rw[List.all_cons,Bool.and_eq_true]at f;rw[List.any_cons,List.any_cons,rK r f.1,mG t f.2]
theorem ik{A:Around}{s:Shared}{x:V}{v:Value}(rx:RelV x v)(fx:eY x=true):∀{xs:List V}{us:List Value},Vals xs us->xs.all eY=true->∀ u∈us,SeqAt.EqAt A s u v (eqU x u)
 |_,_,.nil,_=>fun u hu=>by cases hu
 | y::xs,u::us,.cons r t,f=>fun u' hu=>by
  rw[List.all_cons,Bool.and_eq_true]at f;rcases List.mem_cons.mp hu with rfl|hu
  . rw[rK r f.1];exact Lr r rx f.1 fx
  . exact ik rx fx t f.2 u' hu
def inV(x:V)(xs:List V):Bool:=xs.any fun y=>eqV y x
inductive rIn(K:W.Frag)(neg:Bool)(x:V)(y:V)(H:Hp)(Q:VK):Prop
 |mk (p xs) (_:y = .ref p) (_:(SqL K H p xs\/SqT K H p xs)) (_:eY x=true) (_:xs.all eY=true) (_:Q (.bl (if neg then !inV x xs else inV x xs)) H)
theorem uC:OpR X (compareOp .In) (rIn X.K false):=by
 intro pins s σ H x y v u Q I rx ry h;obtain⟨p,xs,rfl,hq,fx,fs,q⟩:=h;cases ry;rcases hq with hq|hq
 . obtain⟨its,r,pl,hz⟩:=I.list hq
   refine SeqAt.in_listAt (eqU x) pl.isList (fun w hw=>ik rx fx r fs w (by simpa using hw)) ⟨.bl _,H,I,rfl,?_⟩;rw[show its.toArray.any (eqU x)=its.any (eqU x)by simp,mG r fs];exact q
 . obtain⟨its,r,pl,hz⟩:=I.tuple hq
   refine SeqAt.in_tupleAt (eqU x) pl (fun w hw=>ik rx fx r fs w (by simpa using hw)) ⟨.bl _,H,I,rfl,?_⟩;rw[show its.toArray.any (eqU x)=its.any (eqU x)by simp,mG r fs];exact q
theorem v8:OpR X (compareOp .NotIn) (rIn X.K true):=by
 intro pins s σ H x y v u Q I rx ry h;obtain⟨p,xs,rfl,hq,fx,fs,q⟩:=h;cases ry;rcases hq with hq|hq
 . obtain⟨its,r,pl,hz⟩:=I.list hq
   refine SeqAt.notIn_listAt (eqU x) pl.isList (fun w hw=>ik rx fx r fs w (by simpa using hw)) ⟨.bl _,H,I,rfl,?_⟩;rw[show its.toArray.any (eqU x)=its.any (eqU x)by simp,mG r fs];exact q
 . obtain⟨its,r,pl,hz⟩:=I.tuple hq
   refine SeqAt.notIn_tupleAt (eqU x) pl (fun w hw=>ik rx fx r fs w (by simpa using hw)) ⟨.bl _,H,I,rfl,?_⟩;rw[show its.toArray.any (eqU x)=its.any (eqU x)by simp,mG r fs];exact q
theorem aX:eG X (.builtin "len") (fun xs H Q=>∃ p ys,xs=[.ref p]/\(SqL X.K H p ys\/SqT X.K H p ys)/\Q (.int ys.length) H):=by
 intro pins s σ H xs us Q I r h;obtain⟨p,ys,rfl,hq,q⟩:=h;obtain⟨u,rfl,rx⟩:=vals1 r;cases rx;have hn:=mF;rcases hq with hq|hq
 . obtain⟨its,r',pl,hz⟩:=I.list hq
   have hlen:=r'.length;exact Calls.call_len_list pl.isList (by simp only[List.size_toArray] <;> omega) ⟨.int ys.length,H,I.tok _,⟨s.toks+1,by rw[List.size_toArray,hlen]⟩,q⟩
 . obtain⟨its,r',pl,hz⟩:=I.tuple hq
   have hlen:=r'.length;exact len_tuple pl (by simp only[List.size_toArray] <;> omega) ⟨.int ys.length,H,I.tok _,⟨s.toks+1,by rw[List.size_toArray,hlen]⟩,q⟩
theorem iR:eG X (.builtin "len") (fun xs H Q=>∃ z,xs=[.str z]/\z.length<=sizeLine/\Q (.int z.length) H):=by
 intro pins s σ H xs us Q I r h;obtain⟨z,rfl,hz,q⟩:=h;obtain⟨u,rfl,t,rfl⟩:=vals1 r;have hn:=mF;exact len_str (by omega) ⟨.int z.length,H,I.tok _,⟨_,rfl⟩,q⟩
theorem v9:eG X (.type "list") (fun xs H Q=>∃ p ys,xs=[.ref p]/\(SqL X.K H p ys\/SqT X.K H p ys)/\∀ l,H l=none->Q (.ref l) (upd H l (.lst ys))):=by
 intro pins s σ H xs us Q I r h;obtain⟨p,ys,rfl,hq,q⟩:=h;obtain⟨u,rfl,rx⟩:=vals1 r;cases rx
 have fin:∀(its:List Value),Vals ys its->ys.length<=sizeLine->∀(h':Heap)(c':Nat),(∀ b o',s.heap.get? b=some o'->h'.get? b=some o') ->
   h'.get? s.heap.objs.size=some { cls:=.type "list",dict:=none,data:=.seq its.toArray c',slots:=#[] }->EP X pins σ Q (.ref s.heap.objs.size) { s with heap:=h' }:=fun its r' hz h' c' kp e =>
  ⟨.ref s.heap.objs.size,_,I.laid (t':=s.toks) kp (qnr _) (show ObjOk X.prog X.w _ h' _ (.lst ys)from⟨hz,its,c',r',e⟩),rfl,q _ (I.hok.fresh (qnr _))⟩
 rcases hq with hq|hq
 . obtain⟨its,r',pl,hz⟩:=I.list hq
   have hlen:=r'.length;obtain⟨o,ho,hc,n,hd⟩:=pl.isList;exact call_list_seq p (.inl rfl) ho hc hd (fun h' c' kp e=>fin its r' hz h' c' kp e) (by simp only[List.size_toArray] <;> omega)
 . obtain⟨its,r',pl,hz⟩:=I.tuple hq
   have hlen:=r'.length;obtain⟨o,ho,hc,n,hd⟩:=pl;exact call_list_seq p (.inr rfl) ho hc hd (fun h' c' kp e=>fin its r' hz h' c' kp e) (by simp only[List.size_toArray] <;> omega)
theorem dB:eG X (.type "tuple") (fun xs H Q=>∃ p ys,xs=[.ref p]/\((SqL X.K H p ys/\∀ l,H l=none->Q (.ref l) (upd H l (.tup ys)))\/(SqT X.K H p ys/\Q (.ref p) H))):=by
 intro pins s σ H xs us Q I r h;obtain⟨p,ys,rfl,h⟩:=h;obtain⟨u,rfl,rx⟩:=vals1 r;cases rx;rcases h with⟨hq,q⟩|⟨hq,q⟩
 . obtain⟨its,r',pl,hz⟩:=I.list hq
   have hlen:=r'.length;refine call_tuple_list pl.isList (fun h' kp=>?_) (by simp only[List.size_toArray] <;> omega);have I1:Inv X pins σ H { s with heap:=h' }:=I.kept (t':=s.toks) kp
   have I2:Inv X pins σ (upd H h'.objs.size (.tup ys)) { s with heap:=h'.push { cls:=.type "tuple",data:=.seq its.toArray } } :=
    I1.laid (t':=s.toks) (fun b o e=>Heap.get?_push_of_some _ e) (qnr _) (show ObjOk X.prog X.w _ _ _ (.tup ys)from⟨hz,its,r',IsTupP.new _ _⟩)
   exact⟨.ref h'.objs.size,_,I2,rfl,q _ (I1.hok.fresh (qnr _))⟩
 . obtain⟨its,r',pl,hz⟩:=I.tuple hq
   exact call_tuple_same pl ⟨.ref p,H,I,rfl,q⟩
def tyV(K:W.Frag)(T:String)(x:V)(H:Hp):Prop:=match x with
 | .str _=>T="str"
 | .int _=>T="int"
 | .ref p=>(T="list"/\∃ xs,SqL K H p xs)\/(T="tuple"/\∃ o,K.lookup p=some o/\o.cls = .type "tuple"/\o.dict=none) \/
   (T="dict"/\((∃ kvs,H p=some (.dK kvs))\/∃ kvs,H p=some (.dT kvs)))\/(T="set"/\∃ S n,H p=some (.set S n))
 |_=>False
theorem CG{pins:List (Addr×Obj)}{σ:St}{H:Hp}{s:Shared}{T:String}{x:V}{v:Value}(I:Inv X pins σ H s)(r:RelV x v)(ty:tyV X.K T x H):
  s.TypeIs v T/\∀ a,v = .ref a->∃ ob,s.heap.get? a=some ob/\ob.dict=none:=by
 cases x with
 | str z =>
  obtain⟨t,rfl⟩:=r;cases(show T="str" from ty);exact⟨typeIs_str s z t,fun _ e=>nomatch e⟩
 | int i =>
  obtain⟨t,rfl⟩:=r;cases(show T="int" from ty);exact⟨typeIs_int s i t,fun _ e=>nomatch e⟩
 | ref p =>
  cases r;rcases ty with⟨rfl,xs,hq⟩|⟨rfl,o,hk,hc,hd⟩|⟨rfl,hk⟩|⟨rfl,S,n,hk⟩
  . obtain⟨its,_,pl,_⟩:=I.list hq
    refine⟨pl.isList.typeIs,fun a e=>?_⟩;cases e;obtain⟨o,n,e,c,hd,_⟩:=pl;exact⟨o,e,hd⟩
  . refine⟨⟨o,I.kIn p o hk,hc⟩,fun a e=>?_⟩
    cases e;exact⟨o,I.kIn _ o hk,hd⟩
  . have z:∃ o,s.heap.get? p=some o/\o.ExactDict:=by
     rcases hk with⟨kvs,hk⟩|⟨kvs,hk⟩
     . obtain⟨_,_,_,_,o,_,_,e,ex,_⟩:=I.hok p _ hk
       exact⟨o,e,ex⟩
     . obtain⟨_,_,_,_,o,_,_,e,ex,_⟩:=I.hok p _ hk
       exact⟨o,e,ex⟩
    obtain⟨o,e,ex⟩:=z;refine⟨⟨o,e,ex.1⟩,fun a e2=>?_⟩;cases e2;exact⟨o,e,ex.2.1⟩
  . obtain⟨o,_,_,_,e,ex,_⟩:=I.hok p _ hk
    refine⟨⟨o,e,ex.1⟩,fun a e2=>?_⟩;cases e2;exact⟨o,e,ex.2.1⟩
 |_=>exact False.elim ty
def O9(K:W.Frag)(T:String)(r:V->List V->Hp->VK->Prop)(to:TE):TE:=fun σ H Q=>to σ H fun x H1=>tyV K T x H1/\r x [] H1 Q
def tBM(K:W.Frag)(T:String)(r:V->List V->Hp->VK->Prop)(to:TE)(t:TA):TE:=fun σ H Q=>to σ H fun x H1=>tyV K T x H1/\t σ H1 fun xs H2=>r x xs H2 Q
variable{o e:Expr}{es:List Expr}{to:TE}{t:TA}{name:Str}{apos cpos:Pos}{T id:String}{r:V->List V->Hp->VK->Prop}
theorem mH (pa:PlainAttrs T) (slot:Slot T name id) (hty:typeOf (.builtin id)=pure (.type "method_descriptor")) (hm:MtR X id r) (ho:PE X o to)
  (hbase:attributeBase o name X.env (eval o X.env)=eval o X.env:=by rfl) (hline:(apos.endLine == cpos.line)=true:=by rfl):PE X (.Call (.Attribute o name apos) [] [] cpos) (O9 X.K T r to):=by
 intro pins s σ H Q I h;refine wpAny_Call_method0_late hbase hline (thn (ho pins s σ H _ I h) fun v s1 ⟨x,H1,I1,r1,ty,q1⟩=>?_);obtain⟨h1,h2⟩:=CG I1 r1 ty;exact⟨T,id,pa,slot,hty,h1,h2,Calls.callWith_builtin rfl (PySem.evalArgs_none (hm pins s1 σ H1 x [] v [] Q I1 r1 .nil q1))⟩
theorem bW (pa:PlainAttrs T) (slot:Slot T name id) (hty:typeOf (.builtin id)=pure (.type "method_descriptor")) (hm:MtR X id r) (ho:PE X o to) (ha:PA X (e::es) t)
  (hbase:attributeBase o name X.env (eval o X.env)=eval o X.env:=by rfl)
  (hfew:((backTo cpos (starEach (e::es) X.env)).all (fun x=>!x.1) && (backToKw cpos (keywordEach [] X.env)).all (fun x=>x.1.isSome)
   && decide ((e::es).length+([]:List Keyword).length+(if ([]:List Keyword).isEmpty then 0 else 1)<30))=true:=by rfl)
  (hline:(apos.endLine == cpos.line)=true:=by rfl) (hs:starEach (e::es) X.env=(false,eval e X.env):: starEach es X.env:=by rfl) (hplain:(backTo cpos (starEach es X.env)).any (·.1)=false:=by rfl):
  PE X (.Call (.Attribute o name apos) (e::es) [] cpos) (tBM X.K T r to t):=by
 intro pins s σ H Q I h;refine wpAny_Call_method_late hbase hfew hline rfl (thn (ho pins s σ H _ I h) fun v s1 ⟨x,H1,I1,r1,ty,q1⟩=>?_);obtain⟨h1,h2⟩:=CG I1 r1 ty;refine⟨T,id,pa,slot,hty,h1,h2,?_⟩;have hA:=ha cpos pins s1 σ H1 _ I1 q1;rw[hs]at hA ⊢;refine Calls.callWith_builtin (by show(false || (backTo cpos (starEach es X.env)).any (·.1))=false;rw[hplain] <;> rfl) (Calls.evalArgs_plain ?_);exact thn hA fun us s2 ⟨vs,H2,I2,r2,q2⟩=>hm pins s2 σ H2 x vs v us Q I2 r1 r2 q2
/- xs.append(e),list.index on a module's tuple .. are MtR facts of 06m -/
end
end L2
namespace L2
open PySem PySem.Spec PyProof.Rows
def MtM(X:Cx)(id:String)(r:V->List V->Hp->VK->Prop):Prop :=
 ∀(pins:List (Addr×Obj))(s:Shared)(σ:St)(H:Hp)(x:V)(xs:List V)(v:Value)(us:List Value)(Q:VK),Inv X pins σ H s->RelV x v->Vals xs us->r x xs H Q ->
  wpAny (model X.prog X.w) X.A (call (.builtin id) (v::us)) (EP X pins σ Q) X.xe s
theorem Vals.one:∀{x:V}{us:List Value},Vals [x] us->∃ u,us=[u]/\RelV x u
 |_,_,.cons r .nil=>⟨_,rfl,r⟩
theorem Vals.zero:∀{us:List Value},Vals [] us->us=[]
 |_,.nil=>rfl
theorem Vals.dropLast{xs:List V}{us:List Value}(h:Vals xs us):Vals xs.dropLast us.dropLast:=by
 induction h with
 |nil=>exact .nil
 | cons r t ih =>
  cases t with
  |nil=>exact .nil
  |cons q t'=>exact .cons r ih
theorem Vals.rep{xs:List V}{us:List Value}(h:Vals xs us):∀ k:Nat,Vals (List.replicate k xs).flatten (List.replicate k us).flatten
 | 0=>.nil
 | k+1=>by
  rw[List.replicate_succ,List.replicate_succ,List.flatten_cons,List.flatten_cons];exact Vals.append h (Vals.rep h k)
theorem An{α:Type}(l:List α):l.eraseIdx (l.length - 1)=l.dropLast:=by
 induction l with
 |nil=>rfl
 | cons a r ih =>
  cases r with
  |nil=>rfl
  | cons b r =>
   have e:(a::b::r).length - 1=((b::r).length - 1)+1:=by
    have h1:(a::b::r).length=r.length+2:=rfl;have h2:(b::r).length=r.length+1:=rfl;omega
   rw[e,List.eraseIdx_cons_succ,ih]
   all_goals rfl
theorem foldl_rep(its:List Value):∀(k:Nat)(acc:List Value),
  List.foldl (fun x1 x2=>x1++x2) acc.toArray (List.replicate k its.toArray)=(acc++(List.replicate k its).flatten).toArray
 | 0,acc=>by simp
 | k + 1,acc=>by
  have e:acc.toArray++its.toArray=(acc++its).toArray:=by simp
  have e2:(acc++its)++(List.replicate k its).flatten=acc++(List.replicate (k+1) its).flatten:=by
   rw[List.replicate_succ,List.flatten_cons,List.append_assoc]
  rw[<- e2,<- foldl_rep its k (acc++its),<- e,List.replicate_succ,List.foldl_cons]
section
variable{X:Cx}{pins:List (Addr×Obj)}{σ:St}{H:Hp}{s:Shared}{l b:Addr}{xs ys zs:List V}
theorem Inv.lset{its its':List Value}{n:Nat}{f:Array Value->Array Value}{t':Nat}(I:Inv X pins σ H s)(hH:H l=some (.lst xs))
  (e:s.heap.get? l=some { cls:=.type "list",data:=.seq its.toArray n }) (hf:f its.toArray=its'.toArray) (hv:Vals ys its') (hz:ys.length<=sizeLine):
  Inv X pins σ (upd H l (.lst ys)) { s with heap:=s.heap.update l (Obj.mapSeq f),toks:=t' }:=by
 have q:=PySem.IsL.update e f;rw[hf]at q;refine I.write (x:=l) (e:=l) (by rw[hH];exact trivial) (.inl rfl) (fun b' u hb hu=>(Heap.get?_update_other s.heap (Obj.mapSeq f) (Ne.symm hb)).trans hu) ⟨_,q⟩ ?_;exact⟨hz,its',_,hv,q⟩
theorem Inv.lnew{its:List Value}{t':Nat}(I:Inv X pins σ H s)(hv:Vals ys its)(hz:ys.length<=sizeLine):
  Inv X pins σ (upd H s.heap.objs.size (.lst ys)) { s with heap:=s.heap.push { cls:=.type "list",data:=.seq its.toArray },toks:=t' } :=
 I.laid (fun _ _ q=>Heap.get?_push_of_some _ q) (qnr _) ⟨hz,its,0,hv,Heap.get?_push_size _ rfl⟩
theorem Inv.fresh(I:Inv X pins σ H s):H s.heap.objs.size=none:=I.hok.fresh (qnr _)
theorem Inv.lstM(I:Inv X pins σ H s)(hH:H l=some (.lst xs)):xs.length<=sizeLine/\∃(its:List Value) (n:Nat),Vals xs its/\xs.length=its.length/\s.heap.get? l=some { cls:=.type "list",data:=.seq its.toArray n }:=by
 obtain⟨z,its,n,r,e⟩:=I.hok l _ hH;exact⟨z,its,n,r,r.length,e⟩
theorem Gf{n:Nat}(h:n<=sizeLine):Builtin.List.listTooLong n=false:=by
 unfold Builtin.List.listTooLong;exact qdf (by omega)
end
section
variable{X:Cx}
inductive rAppend(x:V)(vs:List V)(H:Hp)(Q:VK):Prop
 |mk (l xs y) (_:x = .ref l) (_:vs=[y]) (_:H l=some (.lst xs)) (_:xs.length<sizeLine) (_:Q .non (upd H l (.lst (xs++[y]))))
theorem cM:MtM X "list.append" rAppend:=by
 intro pins s σ H x vs v us Q I rx rv h;obtain⟨l,xs,y,rfl,rfl,hH,hz,q⟩:=h;cases rx;obtain⟨u,rfl,ru⟩:=rv.one;obtain⟨z,its,n,r,hl,e⟩:=I.lstM hH;refine call_meets F.slot_list_append ⟨_,e,rfl⟩ F.entry_list_append (F.args_list_append_2 _ _) (PySem.list_append l its.toArray n u (by rw[List.size_toArray];omega)) ⟨e,?_⟩;refine⟨.non,_,I.lset (its':=its++[u]) hH e (by simp) (r.append (.cons ru .nil)) ?_,rfl,q⟩;rw[List.length_append,List.length_singleton];omega
inductive rExtend(x:V)(vs:List V)(H:Hp)(Q:VK):Prop
 |mk (l b xs zs) (_:x = .ref l) (_:vs=[.ref b]) (_:H l=some (.lst xs)) (_:H b=some (.lst zs)) (_:xs.length+zs.length<=sizeLine) (_:Q .non (upd H l (.lst (xs++zs))))
theorem CJ:MtM X "list.extend" rExtend:=by
 intro pins s σ H x vs v us Q I rx rv h;obtain⟨l,b,xs,zs,rfl,rfl,hH,hB,hz,q⟩:=h;cases rx;obtain⟨u,rfl,ru⟩:=rv.one;cases ru;obtain⟨z,its,n,r,hl,e⟩:=I.lstM hH;obtain⟨z2,its2,n2,r2,hl2,e2⟩:=I.lstM hB;have hsz:its.toArray.size+its2.toArray.size<=sizeLine:=by rw[List.size_toArray,List.size_toArray];omega
 have hlong:¬ (!its.toArray.isEmpty && Builtin.List.listTooLong (its.toArray.size+its2.toArray.size))=true:=by
  rw[Gf hsz,Bool.and_false];exact qbf
 refine call_meets F.slot_list_extend ⟨_,e,rfl⟩ F.entry_list_extend (F.args_list_extend_2 _ _)
  (AutoSeq1.list_extend_list_list_0 l its.toArray n b its2.toArray n2 hlong (by rw[List.size_toArray];omega) (by omega)) ⟨e,e2,?_⟩
 refine⟨.non,_,I.lset (its':=its++its2) hH e (by simp) (r.append r2) ?_,rfl,q⟩;rw[List.length_append];omega
inductive rPop(x:V)(vs:List V)(H:Hp)(Q:VK):Prop
 |mk (l xs y) (_:x = .ref l) (_:vs=[]) (_:H l=some (.lst xs)) (_:xs[xs.length - 1]? = some y) (_:Q y (upd H l (.lst xs.dropLast)))
theorem oF:MtM X "list.pop" rPop:=by
 intro pins s σ H x vs v us Q I rx rv h;obtain⟨l,xs,y,rfl,rfl,hH,hy,q⟩:=h;cases rx;have hus:=rv.zero;subst hus;obtain⟨z,its,n,r,hl,e⟩:=I.lstM hH;obtain⟨u,hu,ru⟩:=r.get hy
 have hy':its.toArray[its.toArray.size - 1]? = some u:=by
  show its.toArray[its.length - 1]? = some u;rw[<- Array.getElem?_toList,<- hl];exact hu
 refine call_meets F.slot_list_pop ⟨_,e,rfl⟩ F.entry_list_pop (F.args_list_pop_1 _) (MeetsSeq.list_pop_last l its.toArray n u hy' (by rw[List.size_toArray];omega)) ⟨e,?_⟩;refine⟨y,_,I.lset (its':=its.dropLast) hH e ?_ r.dropLast ?_,ru,q⟩
 . show its.toArray.eraseIdxIfInBounds (its.toArray.size - 1)=its.dropLast.toArray
   rw[List.size_toArray,List.eraseIdxIfInBounds_toArray,An]
 . rw[List.length_dropLast]
   omega
inductive rCat(x:V)(y:V)(H:Hp)(Q:VK):Prop
 |mk (l b xs zs) (_:x = .ref l) (_:y = .ref b) (_:H l=some (.lst xs)) (_:H b=some (.lst zs)) (_:xs.length+zs.length<=sizeLine) (_:∀ p,H p=none->Q (.ref p) (upd H p (.lst (xs++zs))))
theorem rM:OpR X (binaryOp .Add) rCat:=by
 intro pins s σ H x y v u Q I rx ry h;obtain⟨l,b,xs,zs,rfl,rfl,hH,hB,hz,q⟩:=h;cases rx;cases ry;obtain⟨z,its,n,r,hl,e⟩:=I.lstM hH;obtain⟨z2,its2,n2,r2,hl2,e2⟩:=I.lstM hB;refine PySem.P.add_list e e2 ?_ (by rw[List.size_toArray,List.size_toArray];omega);have ea:its.toArray++its2.toArray=(its++its2).toArray:=by simp
 rw[ea];exact⟨.ref _,_,I.lnew (t':=s.toks) (r.append r2) (by rw[List.length_append];omega),rfl,q _ I.fresh⟩
theorem len_rep{α:Type}(xs:List α)(k:Nat):(List.replicate k xs).flatten.length=k * xs.length:=by
 induction k with
 |zero=>simp
 |succ k ih=>rw[List.replicate_succ,List.flatten_cons,List.length_append,ih,Nat.succ_mul,Nat.add_comm]
end
section
variable{prog:Program}{w:World}{A:Around}{E:Value->Shared->Prop}{s:Shared}
set_option maxRecDepth 100000 in
end
section
variable{X:Cx}
end
end L2
namespace Att
open PySem PySem.W PySem.Calls PyProof.Rows
theorem rN{P:Params}{h:Heap}:∀(ns:List Int)(vs:List Value),WellAll P h vs (ns.map WData.int)->IntsAre vs ns:=by
 intro ns
 induction ns with
 | nil =>
  intro vs w;rw[List.map_nil]at w;cases w;exact .nil
 | cons n ns ih =>
  intro vs w;rw[List.map_cons]at w;cases w with
  | cons a b =>
   cases a;exact .cons _ _ (ih _ b)
theorem CK{l:OpenLaw}{n:Nat}(hn:l.most=some n){P:Params}{h:Heap}{args:List WData}{vals:List Value}
  (hpre:l.row.toRowW.claim.pre args=true) (hwl:WellAll P h vals args):
  ∃ a vs ns,vals=[Value.ref a]/\args=[WData.list (ns.map WData.int)]/\h.get? a=some { cls:=.type "list",data:=.seq vs.toArray }/\IntsAre vs ns/\ns.length<=n:=by
 have hsh:WShape.hasAll [] args [.list .int]=true:=(pre_splitW hpre).1;have hc:l.pre.holds [] { args:=args }=true:=(pre_splitW hpre).2;obtain⟨d,r,rfl,h1,h2⟩:=hasAllW_cons hsh;obtain rfl:=hasAllW_nil h2;obtain⟨xs,rfl,h3⟩:=hasW_list h1;obtain⟨ns,rfl⟩:=items_int h3
 have hlen:ns.length<=n:=by
  unfold OpenLaw.pre at hc
  have h4:(WTm.not (.lt (.lit (.int (n:Int))) (.len (.arg 0)))).holds [] { args:=[.list (ns.map .int)] }=true:=by
   have h4:=(holds_andW hc).1;rw[hn]at h4;exact h4
  have h5:=condW_of h4 (w_not (w_lt w_lit (w_len_list (w_arg rfl))));rw[qlm]at h5;refine Nat.le_of_not_lt fun q=>?_
  have q':(n:Int)<((ns.length:Nat):Int):=by omega
  first
   |(rw[qdt q']at h5;exact absurd h5 (by decide))
   |(simp at h5;omega)
 cases hwl with
 | cons w1 w2 =>
  cases w2;cases w1 with
  |list ho hall=>exact⟨_,_,ns,rfl,rfl,ho,rN ns _ hall,hlen⟩
theorem CN(l:OpenLaw)(args:List WData):l.row.toRowW.claim.post args (.bool true) args=true :=
 postW_of (r:=l.row.toRowW) (X:=(true == true))
  (show WShape.has [] (.bool true) .bool=true by first|rfl|decide|simp[WShape.has,WShape.arms,WShape.armsAll])
  (show(WTm.eq .res (.lit (.bool true))).value [] { args:=args,res:=some (.bool true),after:=args }=some (.bool (true == true))from w_eq_bool (w_res rfl) w_lit) rfl
theorem attach_call{l:OpenLaw}{n:Nat}{q:Program}{loose:List Str}{XP:(Str->Option Value)->Heap->Prop}{YP:World->Heap->Prop}{d:DefRec}
  (hn:l.most=some n) (hdf:d.params.defaults=[])
  (call:∀(w:World)(s₀ s₁:Shared)(mg mb:Str->Option Value)(fa:Addr)(o:Obj)(pm cd doc:Value)(a:Addr)(vs:List Value)(ns:List Int),
   Ground q loose [] XP w s₀ mg mb s₁.heap->YP w s₁.heap ->
   s₁.heap.get? fa=some o->o.data = .func (docDef d.name d.params d.body d.scope pm cd doc)->s₁.heap.CodeRec cd d.name->mg d.name=some (.ref fa) ->
   s₁.heap.get? a=some { cls:=.type "list",data:=.seq vs.toArray }->IntsAre vs ns->ns.length<=n->s₁.gens = #[] ->
   codeAny (model l.prog w) callerA (.call (.ref fa) ⟨[.ref a],[]⟩) (fun r s'=>r = .ok (.ret (.bool true))/\OldK s₁.heap s'.heap/\s'.os=s₁.os/\AllBare s'.gens) s₁):
  WalkO q loose XP YP l.row.toRowW d [] (fun f vs=>PySem.call f vs):=by
 intro w s₀ s₁ mg mb G Y fa o pm cd doc dV kV ho hd hcd hD hmg hg args vals as hpre hlay hrd hwl hlo;obtain rfl:dV = .none:=Dflts.none hD hdf;obtain rfl:kV = .none:=Dflts.noKw hD;obtain⟨a,vs,ns,rfl,rfl,hobj,hints,hlen⟩:=CK hn hpre hwl;refine enter_call (codeAny_mono (call w s₀ s₁ mg mb fa o pm cd doc a vs ns G Y ho (fd_plain hd) hcd hmg hobj hints hlen hg) fun r s' hq=>?_);obtain⟨rfl,h2,h3,h4⟩:=hq;exact⟨.inl ⟨.bool true,.bool true,[],rfl,fun _=>rfl,.bool true,CN l _,fun _=>⟨List.Pairwise.nil,fun _ hm=>(nomatch hm)⟩⟩,h2,h3,h4⟩
section
variable{prog:Program}{w:World}{A:Around}{E:Value->Shared->Prop}{s:Shared}{K:Frag}
end
end Att
namespace L2
open PySem PySem.Spec PyProof.Rows
theorem uD:∀{vs:List Value}{ns:List Int},IntsAre vs ns->Vals (ns.map V.int) vs
 |_,_,.nil=>.nil
 |_,_,.cons n t h=>.cons ⟨t,rfl⟩ (uD h)
def Only(H:Hp):Prop:=∀ b,H b=none\/∃ o xs,H b=some (.frz o (.lst xs))
theorem Gg{P:Program}{w:World}{K:W.Frag}{mg mb:Str->Option Value}{CX:CXT}{k:Nat}{fa a:Addr}{fd:FuncData}{x:Str}{sp:Sp}{s₁:Shared}{vs:List Value}{ns:List Int}
  (KX:K.In s₁.heap) (hns:s₁.heap.Ns mainGlobals mg) (hb:s₁.heap.Ns builtinsNs mb) (hbb:∀ x:Str,x≠"__name__"->mb x=bootBuiltins x) (hlim:s₁.heap.NoLimit) (hg:s₁.gens = #[])
  (ha:s₁.heap.get? a=some { cls:=.type "list",data:=.seq vs.toArray }) (hi:IntsAre vs ns) (hl:ns.length<=sizeLine) (hr:Room k callerA)
  (F:∀ base:Heap,K.In base->base.Ns mainGlobals mg->FnOk P w K mg base CX k fa fd [x] sp) (hbind:∀(s:Shared)(u:Value),BindsTo s fd ⟨[u],[]⟩ [(x,u)])
  (hsp:∀ H:Hp,Only H->SqL K H a (ns.map V.int)->sp [.ref a] H (fun v _=>v = .bl true) fun _ _ _=>False)
  (hCX:∀ H e s',CX [] H s₁ (fun _ _ _=>False) e s'->False):
  codeAny (model P w) callerA (.call (.ref fa) ⟨[.ref a],[]⟩) (fun r s'=>r = .ok (.ret (.bool true))/\OldK s₁.heap s'.heap/\s'.os=s₁.os/\AllBare s'.gens) s₁:=by
 have rv:=uD hi;have lenV:=hi.length
 have core:∀ H:Hp,Only H->SqL K H a (ns.map V.int)->HOk P w H s₁.heap->(∀ b,H b≠none->b=a)->(H a≠none->K.lookup a=none) ->
   codeAny (model P w) callerA (.call (.ref fa) ⟨[.ref a],[]⟩) (fun r s'=>r = .ok (.ret (.bool true))/\OldK s₁.heap s'.heap/\s'.os=s₁.os/\AllBare s'.gens) s₁:=by
  intro H hO hS hok hA hK;have base_of:∀{b:Addr}{o:Obj},s₁.heap.get? b=some o->H b=none->(mU s₁.heap H).get? b=some o:=fun e n=>FP e n
  have noA:∀{b:Addr}{o:Obj}{es:Array DictEntry}{ep:Nat},s₁.heap.get? b=some o->o.data = .dict es ep->H b=none:=fun {b o es ep} e d=>by
   cases q:H b with
   |none=>rfl
   | some u =>
    have e':b=a:=hA b (by rw[q];simp);subst e';rw[ha]at e;cases e;have d':Data.seq vs.toArray _=Data.dict es ep:=d;cases d'
  have nsK:∀{b:Addr}{m:Str->Option Value},s₁.heap.Ns b m->(mU s₁.heap H).Ns b m:=fun {b m} ⟨o,es,ep,e,d,r⟩=>⟨o,es,ep,base_of e (noA e d),d,r⟩
  have hKb:K.In (mU s₁.heap H):=fun b o e=>base_of (KX b o e) (by
   cases q:H b with
   |none=>rfl
   | some u =>
    have e':b=a:=hA b (by rw[q];simp);subst e'
    rw[hK (by rw[q];simp)]at e;cases e)
  have hM:Mod K mg (mU s₁.heap H):=⟨hKb,nsK hns,⟨mb,nsK hb,hbb⟩,let ⟨mc,h1,h2⟩:=hlim;⟨mc,nsK h1,h2⟩⟩
  have e0:Env0 P w K mg (mU s₁.heap H) callerA [] s₁ H:=⟨rfl,hM,fun b o e=>JK e,Nat.le_of_eq (Ci _ _),trivial,fun b hb=>absurd (show b∈([]:List Addr)from hb) (by simp),hok,.of_eq hg⟩
  refine codeAny_mono ((F _ hKb (nsK hns)).run callerA [] s₁ H ⟨[.ref a],[]⟩ [.ref a] [.ref a] _ _ hr e0 (hbind s₁ (.ref a)) (.cons rfl .nil) (hsp H hO hS)) fun r s' h=>?_
  cases r with
  |error e=>exact(hCX H e s' h).elim
  | ok fl =>
   cases fl with
   |next=>exact False.elim h
   |brk=>exact False.elim h
   |cont=>exact False.elim h
   | ret u =>
    obtain⟨v,H',os,bare,un,hok',r',q⟩:=h;have q':v = .bl true:=q;subst q';obtain rfl:u=Value.bool true:=r';refine⟨rfl,OldK.of_keep fun b o e=>?_,os,bare⟩;cases q:H b with
    |none=>exact un.keep b o e q (by intro z;exact absurd (show b∈([]:List Addr)from z) (by simp)) (by simp)
    | some u =>
     rcases hO b with z|⟨ob,xs,z⟩
     . rw[q]at z;cases z
     . have z2:=un.frzs b ob _ z
       obtain⟨e1,_⟩:=hok b _ z;obtain⟨e2,_⟩:=hok' b _ z2;rw[e]at e1;cases e1;exact e2
 cases hk:K.lookup a with
 | some o =>
  have e:=KX a o hk;rw[ha]at e;cases e;refine core (fun _=>none) (fun _=>.inl rfl) (.inr ⟨_,vs.toArray,_,hk,rfl,rfl,rfl,by rw[List.size_toArray,lenV];exact hl,by simpa using rv⟩) (fun b u z=>by have z':(none:Option HO)=some u:=z;cases z') (fun b z=>absurd rfl z) fun z=>absurd rfl z
 | none =>
  refine core (fun b=>if b=a then some (.frz { cls:=.type "list",data:=.seq vs.toArray } (.lst (ns.map V.int)))else none) (fun b=>?_) (.inl (.inr ⟨{ cls:=.type "list",data:=.seq vs.toArray },qp rfl⟩)) (fun b u z=>?_) (fun b z=>?_) fun _=>hk
  . by_cases hb:b=a
    . exact .inr ⟨_,_,qp hb⟩
    . exact .inl (qnZ hb)
  . by_cases hb:b=a
    . have z':=(qp hb).symm.trans z
      cases z';subst hb;exact⟨ha,by rw[qlm];exact hl,vs,_,rv,ha⟩
    . have z':=(qnZ hb).symm.trans z
      cases z'
  . by_cases hb:b=a
    . exact hb
    . exact absurd (qnZ hb) z
end L2
namespace L2
open PySem PySem.Spec PyProof.Rows
abbrev KOf{K:W.Frag}{h:Heap}(_:K.In h):W.Frag:=K
theorem JZ{l:W.OpenLaw}{n k:Nat}{q:Program}{loose:List Str}{XP:(Str->Option Value)->Heap->Prop}{YP:World->Heap->Prop}{d:DefRec}{K:Params->W.Frag}{CX:World->CXT}{sp:World->Sp}{x:Str}
  (hn:l.most=some n) (hn2:n<=sizeLine) (hdf:d.params.defaults=[]) (hr:Room k callerA)
  (hY:∀(w:World)(h:Heap),YP w h->(K w.params).In h)
  (F:∀(w:World)(mg:Str->Option Value)(fa:Addr)(h:Heap),(K w.params).In h->h.Ns mainGlobals mg->mg d.name=some (.ref fa) ->
   ∃ fd:FuncData,(∀(s:Shared)(u:Value),BindsTo s fd ⟨[u],[]⟩ [(x,u)]) /\
    ∀ base:Heap,(K w.params).In base->base.Ns mainGlobals mg->FnOk l.prog w (K w.params) mg base (CX w) k fa fd [x] (sp w))
  (hsp:∀(w:World)(H:Hp)(a:Addr)(ns:List Int),ns.length<=n->Only H->SqL (K w.params) H a (ns.map V.int)->sp w [.ref a] H (fun v _=>v = .bl true) fun _ _ _=>False)
  (hCX:∀(w:World)(H:Hp)(s:Shared)(e:Value)(s':Shared),CX w [] H s (fun _ _ _=>False) e s'->False):
  W.WalkO q loose XP YP l.row.toRowW d [] (fun f vs=>PySem.call f vs):=by
 refine Att.attach_call hn hdf fun w s₀ s₁ mg mb fa o pm cd doc a vs ns G Y ho hd hcd hmg hobj hints hlen hg=>?_
 have KX:=hY w _ Y;obtain⟨fd,hb,hF⟩:=F w mg fa _ KX G.T.g hmg;exact Gg KX G.T.g G.T.b G.T.builtins G.T.nolimit hg hobj hints (qnt hlen hn2) hr hF hb (fun H hO hS=>hsp w H a ns hlen hO hS) fun H e s'=>hCX w H s₁ e s'
end L2
namespace L2
open PySem PySem.Spec PyProof.Rows
def inClass(s:Stmt)(j:Nat):Stmt:=match s with
 | .ClassDef _ _ _ body _ _ _ _ _ _ _=>body.getD j (.Pass ⟨0,0,0,0⟩)
 |_=>.Pass ⟨0,0,0,0⟩
def iG(s:Stmt):Arguments:=match s with
 | .FunctionDef _ a _ _ _ _ _ _ _ _=>a
 |_=>{ posonlyargs:=[],args:=[],vararg:=none,kwonlyargs:=[],kw_defaults:=[],kwarg:=none,defaults:=[] }
def gh(s:Stmt):List Stmt:=match s with
 | .FunctionDef _ _ b _ _ _ _ _ _ _=>b
 |_=>[]
def aB(s:Stmt):Scope:=match s with
 | .FunctionDef _ _ _ _ _ _ sc _ _ _=>sc
 |_=>{ kind:=.function,names:=[],isGenerator:=false,isCoroutine:=false }
abbrev CX0:CXT:=fun _ _ _ _ _ _=>False
abbrev E0:XK:=fun _ _ _=>False
structure Fun(K:W.Frag)(x qual:Str)(st:Stmt)(f:Addr)(fd:FuncData):Prop where
 ex:∃(oc:Value)(od:Option Addr)(kV doc pm:Value)(an:Option Addr)(cdv ct:Value)(osl:Array (Option Value)),
  fd=W.fnOf x qual (iG st) (gh st) (aB st) .none kV doc pm an cdv ct/\K.lookup f=some ⟨oc,od,.func fd,osl⟩/\W.codeIn K cdv qual=true
 kp:W.keepIn K (.ref f)=true
section
variable{P:Program}{w:World}{K:W.Frag}{mg:Str->Option Value}{base:Heap}
theorem Fun.binds{x qual:Str}{st:Stmt}{f:Addr}{fd:FuncData}{ps:List Str}(F:Fun K x qual st f fd)
  (h:∀(kV doc pm:Value)(an:Option Addr)(cdv ct:Value)(us:List Value),us.length=ps.length->bindArgs (W.fnOf x qual (iG st) (gh st) (aB st) .none kV doc pm an cdv ct) ⟨us,[]⟩=pure (ps.zip us)):Binds K fd ps []:=by
 obtain⟨oc,od,kV,doc,pm,an,cdv,ct,osl,rfl,lk,hcd⟩:=F.ex;exact .all (h kV doc pm an cdv ct)
theorem CP{x qual:Str}{st:Stmt}{f:Addr}{oc:Value}{od an:Option Addr}{osl:Array (Option Value)}{kV doc pm cdv ct:Value}(l:K.lookup f=some ⟨oc,od,.func (W.fnOf x qual (iG st) (gh st) (aB st) .none kV doc pm an cdv ct),osl⟩)
  (c:W.codeIn K cdv qual=true) (k:W.keepIn K (.ref f)=true):Fun K x qual st f (W.fnOf x qual (iG st) (gh st) (aB st) .none kV doc pm an cdv ct):=⟨⟨oc,od,kV,doc,pm,an,cdv,ct,osl,rfl,l,c⟩,k⟩
end
theorem Room.mo{A:Around}{j k:Nat}(hr:Room k A)(h:j<=k:=by first|decide|omega):Room j A:=hr.mono h
theorem gF{A:Around}{k:Nat}(hr:Room k A):A.units+1<cLine:=Nat.lt_of_le_of_lt (Nat.add_le_add_left (by decide:1<=64) _) hr.units
theorem dO{n:Nat}(h:n<=1000):n<sizeLine:=Nat.lt_of_le_of_lt h (by decide)
section
variable{X:Cx}
theorem pv (i:Nat) {x:Str} {pos:Pos} (hN:X.N[i]? = some x:=by rfl) (hv:Vis X.env.scope x:=by first|exact Or.inl rfl|exact Or.inr (Or.inl rfl)|exact Or.inr (Or.inr rfl)) (hd:(x == ("__debug__":Str))=false:=by decide)
  (hcd:(x == ("__classdict__":Str))=false:=by decide):PE X (.Name x pos) (tVar i):=vW hN hv hd hcd
end
theorem bz{A B:Prop}(h:B):if false=true then A else B:=by
 rw[qnZ qbf];exact h
theorem bT{A B:Prop}(h:A):if true=true then A else B:=by
 rw[qp rfl];exact h
theorem aU{c A B:Prop}[Decidable c](h1:c->A)(h2:¬ c->B):if c then A else B:=by
 by_cases h:c
 . rw[qp h]
   exact h1 h
 . rw[qnZ h]
   exact h2 h
def Same(H H':Hp):Prop:=∀ b o,H b=some o->H' b=some o
theorem Same.refl(H:Hp):Same H H:=fun _ _ h=>h
theorem Same.trans{H H1 H2:Hp}(a:Same H H1)(b:Same H1 H2):Same H H2:=fun c o h=>b c o (a c o h)
theorem Same.free{H H':Hp}(e:Same H H'){l:Addr}(h:H' l=Option.none):H l=Option.none:=by
 cases q:H l with
 |none=>rfl
 | some o =>
  rw[e l o q]at h;cases h
theorem Same.seq{K:W.Frag}{H H':Hp}{a:Addr}{xs:List V}(e:Same H H')(h:SqL K H a xs):SqL K H' a xs:=by
 rcases h with(h|⟨o,h⟩)|h
 . exact .inl (.inl (e _ _ h))
 . exact .inl (.inr ⟨o,e _ _ h⟩)
 . exact .inr h
end L2
set_option Elab.async false
set_option linter.all false
set_option maxRecDepth 100000
namespace L2
open PySem PySem.Spec PyProof.Rows
end L2
namespace L2
open PySem PySem.Spec PyProof.Rows
section
variable(P:Program)(w:World)
end
section
variable{P:Program}{w:World}{H H':Hp}{h h':Heap}{a:Addr}{o:HO}
end
section
variable{P:Program}{w:World}{H:Hp}{h h':Heap}{x e:Addr}{o':HO}
end
section
variable{fs fs' ex ex':List Addr}{H H1 H2:Hp}{h h1 h2 h':Heap}{a x e:Addr}{o:HO}
end
end L2
namespace L2
open PySem PySem.Spec PyProof.Rows
section
variable{X:Cx}{pins:List (Addr×Obj)}{σ:List (Option V)}{H H':Hp}{s:Shared}{h':Heap}
end
end L2
namespace L2
open PySem PySem.Spec PyProof.Rows
section
variable{X:Cx}
variable{a b:Expr}{ta tb:TE}{pos:Pos}
variable{tA tB':TT}{rest:List Expr}
end
end L2
namespace L2
open PySem PySem.Spec PyProof.Rows
section
variable{X:Cx}{pins:List (Addr×Obj)}{σ:St}{H:Hp}{s:Shared}{a:Addr}{xs ys:List V}
end
section
variable{X:Cx}{pins:List (Addr×Obj)}{σ:St}{H:Hp}{s:Shared}{E:Value->Shared->Prop}
end
section
variable{X:Cx}{st:Stmt}{rest:List Stmt}{t u:TS}{e:Expr}{te:TE}{pos:Pos}
end
section
variable{X:Cx}{pos:Pos}
end
section
variable{X:Cx}{pos:Pos}
end
end L2
namespace L2
open PySem PySem.Spec PyProof.Rows
section
variable{X:Cx}{tg:Expr}
end
end L2
namespace L2
open PySem PySem.Spec PyProof.Rows
section
variable{X:Cx}{a b c:Expr}{ta tb tc:TE}{pos:Pos}
end
section
variable{X:Cx}{a b c:Expr}{ta tb tc:TE}{pos:Pos}
end
end L2
namespace L2
open PySem PySem.Spec PyProof.Rows
section
variable{prog:Program}{w:World}{A:Around}{E:Value->Shared->Prop}{s:Shared}{K:W.Frag}{x dx C f:Addr}{mA:Str->Option Value}{name:Str}{v:Value}
end
section
variable{P:Program}{w:World}{H H':Hp}{h h':Heap}{a C dx:Addr}{fs fs':List (Str×V)}
end
section
variable{X:Cx}{pins:List (Addr×Obj)}{σ:St}{H:Hp}{s:Shared}{a C dx:Addr}{fs:List (Str×V)}{f:Str}{v:V}{A:Around}{E:Value->Shared->Prop}
end
section
variable{X:Cx}{o e value:Expr}{f:Str}{pos pos' tpos:Pos}{ta tv:TE}
end
section
variable{X:Cx}{pins:List (Addr×Obj)}{σ:St}{H:Hp}{s:Shared}{A:Around}{E:Value->Shared->Prop}{Q:Value->Shared->Prop}{c:Value}{b:Bool}
end
end L2
namespace L2
open PySem PySem.Spec PyProof.Rows
section
variable{X:Cx}{e:Expr}{es:List Expr}{te:TE}{t:TA}{pos:Pos}
end
section
variable{X:Cx}{pins:List (Addr×Obj)}{σ:St}{H:Hp}{s s':Shared}
end
section
variable{X:Cx}{CX:CXT}{k:Nat}{f C:Addr}{fd:FuncData}{ps:List Str}{sp:Sp}{dvs:List V}{ds:List Value}{E:XK}{x m:Str}{p pos apos:Pos}{e o:Expr}{es:List Expr}{ta:TE}{t:TA}
end
section
variable{X:Cx}{CX:CXT}{k:Nat}{f C:Addr}{fd:FuncData}{ps ks:List Str}{sp:Sp}{E:XK}{x m:Str}{p pos apos kpos:Pos}{e o:Expr}{es:List Expr}{kws:List Keyword}{te ta:TE}{t tk:TA}{nm:Option Str}
variable{g:List Value->List Value->List Value}{gV:List V->List V->List V}
end
end L2
namespace L2
open PySem PySem.Spec PyProof.Rows
section
variable{X:Cx}{x:Str}{p pos:Pos}{e:Expr}{es:List Expr}{t:TA}{id T:String}{r:List V->Hp->VK->Prop}
end
end L2
namespace L2
open PySem PySem.Spec PyProof.Rows
section
variable{κ:Type}[DecidableEq κ]
def bY(kvs:List (κ×V))(k:κ):Option V:=(kvs.find? fun kv=>decide (kv.1=k)).map (·.2)
def putK(kvs:List (κ×V))(k:κ)(v:V):List (κ×V):=
 if (kvs.any fun kv=>decide (kv.1=k))=true then kvs.map (fun kv=>if kv.1=k then(kv.1,v)else kv)else kvs++[(k,v)]
theorem dX{p:κ×V}{r:List (κ×V)}{k:κ}(e:p.1=k):bY (p::r) k=some p.2:=by simp[bY,List.find?_cons,e]
theorem dY{p:κ×V}{r:List (κ×V)}{k:κ}(e:¬ p.1=k):bY (p::r) k=bY r k:=by simp[bY,List.find?_cons,e]
theorem mY(k:κ):∀ kvs:List (κ×V),(kvs.any fun kv=>decide (kv.1=k))=(bY kvs k).isSome
 |[]=>rfl
 | p::r=>by
  rw[List.any_cons]
  by_cases e:p.1=k
  . simp only[dX e,qdt e,Bool.true_or,Option.isSome_some]
  . rw[dY e,qdf e,Bool.false_or];exact mY k r
theorem wg(k j:κ)(y:V):∀ kvs:List (κ×V),bY (kvs.map fun kv=>if kv.1=k then(kv.1,y)else kv) j=(bY kvs j).map fun x=>if j=k then y else x
 |[]=>rfl
 | p::r=>by
  have ih:=wg k j y r;rw[List.map_cons]
  by_cases h:p.1=k
  . rw[qp h]
    by_cases e:p.1=j
    . rw[dX (p:=(p.1,y)) e,dX e,Option.map_some,qp (e.symm.trans h)]
    . rw[dY (p:=(p.1,y)) e,dY e,ih]
  . rw[qnZ h]
    by_cases e:p.1=j
    . rw[dX (p:=p) e,dX e,Option.map_some,qnZ (fun z=>h (e.trans z))]
    . rw[dY (p:=p) e,dY e,ih]
theorem uE(k j:κ)(y:V):∀ kvs:List (κ×V),bY kvs k=none->bY (kvs++[(k,y)]) j=if j=k then some y else bY kvs j
 | [],_=>by
  by_cases e:k=j
  . rw[qp e.symm];exact dX (p:=(k,y)) e
  . rw[qnZ (fun z=>e z.symm)];exact dY (p:=(k,y)) e
 | p::r,hn=>by
  rw[List.cons_append];have hk:¬ p.1=k:=fun z=>by rw[dX z]at hn;cases hn
  rw[dY hk]at hn;have ih:=uE k j y r hn
  by_cases e:p.1=j
  . rw[dX e,dX e,qnZ (fun z=>hk (e.trans z))]
  . rw[dY e,dY e,ih]
theorem Gh(kvs:List (κ×V))(k j:κ)(y:V):bY (putK kvs k y) j=if j=k then some y else bY kvs j:=by
 unfold putK
 by_cases a:(kvs.any fun kv=>decide (kv.1=k))=true
 . rw[qp a,wg]
   rw[mY]at a
   by_cases e:j=k
   . obtain⟨x,hx⟩:=Option.isSome_iff_exists.mp a
     rw[qp e,e,hx,Option.map_some,qp rfl]
   . rw[qnZ e]
     cases bY kvs j with
     |none=>rfl
     |some x=>rw[Option.map_some,qnZ e]
 . rw[qnZ a]
   refine uE k j y kvs ?_;rw[mY]at a;cases q:bY kvs k with
   |none=>rfl
   |some x=>rw[q]at a;exact(a rfl).elim
theorem jx(kvs:List (κ×V))(k:κ)(v:V):(putK kvs k v).length <= kvs.length+1:=by
 unfold putK
 split
 . rw[qlm];omega
 . rw[List.length_append,List.length_cons,List.length_nil];omega
theorem RelO.isSome_eq{o:Option V}{u:Option Value}(r:RelO o u):o.isSome=u.isSome:=by
 cases o with
 | none=>cases u with
  |none=>rfl
  |some _=>exact(show False from r).elim
 | some _=>cases u with
  |none=>exact(show False from r).elim
  |some _=>rfl
theorem KV.val{kvs:List (κ×V)}{vs:List (κ×Value)}(r:KV kvs vs)(k:κ):RelO (bY kvs k) (valueAt vs k):=by
 unfold KV at r
 induction r with
 |nil=>exact True.intro
 | @cons p q ps qs h t ih =>
  obtain⟨h1,h2⟩:=h
  by_cases e:p.1=k
  . have e':q.1=k:=h1.symm.trans e
    have b:valueAt (q::qs) k=some q.2:=by simp[valueAt,List.find?_cons,e']
    rw[dX e,b];exact h2
  . have e':¬ q.1=k:=fun z=>e (h1.trans z)
    have b:valueAt (q::qs) k=valueAt qs k:=by simp[valueAt,List.find?_cons,e']
    rw[dY e,b];exact ih
theorem KV.any{kvs:List (κ×V)}{vs:List (κ×Value)}(r:KV kvs vs)(k:κ):(kvs.any fun kv=>decide (kv.1=k))=vs.any fun kv=>decide (kv.1=k):=by
 unfold KV at r
 induction r with
 |nil=>rfl
 |cons h t ih=>rw[List.any_cons,List.any_cons,ih,h.1]
theorem KV.repl{kvs:List (κ×V)}{vs:List (κ×Value)}(r:KV kvs vs)(k:κ){y:V}{u:Value}(ry:RelV y u):
  KV (kvs.map fun kv=>if kv.1=k then(kv.1,y)else kv) (vs.map fun kv=>if kv.1=k then(kv.1,u)else kv):=by
 unfold KV at r ⊢
 induction r with
 |nil=>exact .nil
 | @cons p q ps qs h t ih =>
  rw[List.map_cons,List.map_cons];refine .cons ?_ ih;obtain⟨h1,h2⟩:=h
  by_cases e:p.1=k
  . rw[qp e,qp (h1.symm.trans e)];exact⟨h1,ry⟩
  . rw[qnZ e,qnZ (fun z=>e (h1.trans z))];exact⟨h1,h2⟩
theorem KV.put{kvs:List (κ×V)}{vs:List (κ×Value)}(r:KV kvs vs)(k:κ){y:V}{u:Value}(ry:RelV y u):KV (putK kvs k y) (stored vs k u):=by
 unfold putK stored;rw[r.any k]
 by_cases e:(vs.any fun kv=>decide (kv.1=k))=true
 . rw[qp e,qp e];exact r.repl k ry
 . rw[qnZ e,qnZ e];exact Paired.snoc r ⟨rfl,ry⟩
theorem KV.length{kvs:List (κ×V)}{vs:List (κ×Value)}(r:KV kvs vs):kvs.length=vs.length:=Paired.length r
end
theorem mZ{P:Program}{w:World}{k:Key}{u:Value}(r:RelV (kV k) u):(bM P w).is k u=true:=by
 cases k with
 |inl i=>obtain⟨t,e⟩:=(show ∃ t,u=Value.int i t from r);subst e;exact p8 P w i t
 |inr x=>obtain⟨t,e⟩:=(show ∃ t,u=Value.str x t from r);subst e;exact qb P w x t
theorem uF{P:Program}{w:World}:∀{ks:List Key}{us:List Value},Vals (ks.map kV) us->ItemsAre (bM P w) ks us
 |[],_,r=>by rw[List.map_nil]at r;cases r;exact .nil
 | k::ks,_,r=>by
  rw[List.map_cons]at r;cases r with
  |cons h t=>exact .cons (mZ h) (uF t)
abbrev KT(H:Hp):List (List Key×V)->List (List Key×Addr×Value)->Prop:=Paired fun p q=>p.1=q.1/\H q.2.1=some (.tup (p.1.map kV))/\RelV p.2 q.2.2
theorem KT.val{H:Hp}{kvs:List (List Key×V)}{xs:List (List Key×Addr×Value)}(r:KT H kvs xs)(k:List Key):RelO (bY kvs k) ((atKey xs k).map (·.2)):=by
 induction r with
 |nil=>exact True.intro
 | @cons p q ps qs h t ih =>
  obtain⟨h1,_,h2⟩:=h
  by_cases e:p.1=k
  . have e':q.1=k:=h1.symm.trans e
    have b:atKey (q::qs) k=some q.2:=by simp[atKey,List.find?_cons,e']
    rw[dX e,b];exact h2
  . have e':¬ q.1=k:=fun z=>e (h1.trans z)
    have b:atKey (q::qs) k=atKey qs k:=by simp[atKey,List.find?_cons,e']
    rw[dY e,b];exact ih
theorem KT.repl{H:Hp}{kvs:List (List Key×V)}{xs:List (List Key×Addr×Value)}(r:KT H kvs xs)(k:List Key){y:V}{u:Value}(ry:RelV y u):
  KT H (kvs.map fun kv=>if kv.1=k then(kv.1,y)else kv) (xs.map (putAt k u)):=by
 induction r with
 |nil=>exact .nil
 | @cons p q ps qs h t ih =>
  rw[List.map_cons,List.map_cons];refine .cons ?_ ih;obtain⟨h1,h2,h3⟩:=h;unfold putAt
  by_cases e:p.1=k
  . rw[qp e,qp (h1.symm.trans e)];exact⟨h1,h2,ry⟩
  . rw[qnZ e,qnZ (fun z=>e (h1.trans z))];exact⟨h1,h2,h3⟩
theorem KT.put{H:Hp}{kvs:List (List Key×V)}{xs:List (List Key×Addr×Value)}(r:KT H kvs xs)(k:List Key){b:Addr}{y:V}{u:Value}(hb:H b=some (.tup (k.map kV)))(ry:RelV y u):
  KT H (putK kvs k y) (storedH xs k b u):=by
 have e:(kvs.any fun kv=>decide (kv.1=k))=(atKey xs k).isSome:=by
  rw[mY,(r.val k).isSome_eq,Option.isSome_map]
 unfold putK storedH;rw[e]
 by_cases q:(atKey xs k).isSome=true
 . rw[qp q,qp q];exact r.repl k ry
 . rw[qnZ q,qnZ q];exact Paired.snoc r ⟨rfl,hb,ry⟩
theorem KT.keeps{H H':Hp}{kvs:List (List Key×V)}{xs:List (List Key×Addr×Value)}(r:KT H kvs xs)(ht:∀ b ys,H b=some (.tup ys)->H' b=some (.tup ys)):KT H' kvs xs :=
 Paired.mapP r fun _ _ z=>⟨z.1,ht _ _ z.2.1,z.2.2⟩
section
variable{P:Program}{w:World}{H:Hp}{h:Heap}{a:Addr}
theorem Ji{u:HO}(ok:HOk P w H h)(e:Rd H a u):ObjOk P w H h a u:=e.ok ok
theorem Ao{kvs:List (Key×V)}(ok:HOk P w H h)(e:Rd H a (.dK kvs)):kvs.length<=sizeLine/\(a == sysModules)=false/\∃ vs,KV kvs vs/\h.DictOf (bM P w) a vs :=
 show ObjOk P w H h a (.dK kvs)from Ji ok e
theorem Jj{kvs:List (Key×V)}(ok:HOk P w H h)(e:H a=some (.dK kvs)):kvs.length<=sizeLine/\(a == sysModules)=false/\∃ vs,KV kvs vs/\h.DictOf (bM P w) a vs:=Ao ok (.inl e)
theorem wj{ks:List Key}(ok:HOk P w H h)(e:H a=some (.tup (ks.map kV))):(tupleKind (bM P w)).is h ks a:=by
 obtain⟨_,its,r,o,h1,h2,n,h3⟩:=(show ObjOk P w H h a (.tup (ks.map kV))from ok a _ e)
 exact⟨o,its.toArray,n,h1,h2,congrArg Prod.fst h3,by simpa using uF r⟩
theorem Aq{kvs:List (List Key×V)}(ok:HOk P w H h)(e:Rd H a (.dT kvs)):kvs.length<=sizeLine/\(a == sysModules)=false /\
  ∃ xs,KT H kvs xs/\h.DictOfH (tupleKind (bM P w)) a xs:=by
 obtain⟨z,y,xs,r,o,es,ep,h1,h2,h3,h4,h5⟩:=(show ObjOk P w H h a (.dT kvs)from Ji ok e)
 refine⟨z,y,xs,r,o,es,ep,h1,h2,h3,h4,fun x hx=>?_,h5⟩
 have all:∀{l:List (List Key×V)}{m:List (List Key×Addr×Value)},KT H l m->∀ x∈m,(tupleKind (bM P w)).is h x.1 x.2.1:=by
  intro l m q
  induction q with
  |nil=>intro x hx;exact nomatch hx
  | @cons p q ps qs hq t ih =>
   intro x hx;rcases List.mem_cons.mp hx with e|hx
   . subst e
     exact wj ok (by rw[<- hq.1];exact hq.2.1)
   . exact ih x hx
 exact all r x hx
theorem Nz{kvs:List (List Key×V)}(ok:HOk P w H h)(e:H a=some (.dT kvs)):kvs.length<=sizeLine/\(a == sysModules)=false /\
  ∃ xs,KT H kvs xs/\h.DictOfH (tupleKind (bM P w)) a xs:=Aq ok (.inl e)
end
def DGet(H:Hp)(a:Addr)(y:V)(r:Option V):Prop :=
 (∃ kvs k,Rd H a (.dK kvs)/\y=kV k/\r=bY kvs k)\/∃ kvs k b,Rd H a (.dT kvs)/\y = .ref b/\H b=some (.tup (k.map kV))/\r=bY kvs k
def DPut(H:Hp)(a:Addr)(y v:V)(H':Hp):Prop :=
 (∃ kvs k,H a=some (.dK kvs)/\y=kV k/\kvs.length<sizeLine/\H'=upd H a (.dK (putK kvs k v))) \/
 ∃ kvs k b,H a=some (.dT kvs)/\y = .ref b/\H b=some (.tup (k.map kV))/\kvs.length<sizeLine/\H'=upd H a (.dT (putK kvs k v))
theorem DGet.k{H:Hp}{a:Addr}{kvs:List (Key×V)}{k:Key}(e:H a=some (.dK kvs)):DGet H a (kV k) (bY kvs k):=.inl ⟨kvs,k,.inl e,rfl,rfl⟩
theorem DPut.k{H:Hp}{a:Addr}{kvs:List (Key×V)}{k:Key}{v:V}(e:H a=some (.dK kvs))(hl:kvs.length<sizeLine):DPut H a (kV k) v (upd H a (.dK (putK kvs k v))):=.inl ⟨kvs,k,e,rfl,hl,rfl⟩
section
variable{X:Cx}{pins:List (Addr×Obj)}{σ:St}{H:Hp}{s:Shared}{a:Addr}{y v:V}{u r:Value}{o:Option V}{A:Around}{E:Value->Shared->Prop}
theorem Inv.big(I:Inv X pins σ H s):sysModules<s.heap.objs.size:=by
 have h:mainGlobals<s.heap.objs.size:=(I.mod.glob.keeps I.bk).lt;exact Nat.lt_trans (by decide) h
theorem CQ{Q:Value->Shared->Prop}(hu:A.units+1<cLine)(I:Inv X pins σ H s)(g:DGet H a y (some v))(ry:RelV y u)(h:∀ w' s',Inv X pins σ H s'->RelV v w'->Q w' s'):
  wpAny (model X.prog X.w) A (getItem (.ref a) u) Q E s:=by
 rcases g with⟨kvs,k,e,ey,l⟩|⟨kvs,k,b,e,ey,eb,l⟩
 . subst ey
   obtain⟨z,hd,vs,rel,dd⟩:=Ao I.hok e;obtain⟨w',hw,rw'⟩:=RelO.some_of (v:=v) (o:=valueAt vs k) (by rw[l];exact rel.val k);exact wpAny_getItem_of (mZ ry) dd.mapOf hw (h w' _ (I.tok _) rw')
 . subst ey
   cases(show u=Value.ref b from ry);obtain⟨z,hd,xs,rel,dd⟩:=Aq I.hok e;obtain⟨w',hw,rw'⟩:=RelO.some_of (v:=v) (o:=(atKey xs k).map (·.2)) (by rw[l];exact rel.val k);obtain⟨p,hp,hp2⟩:=Option.map_eq_some_iff.mp hw;refine wpAny_getItem_heap (tupleKind_room_in1 hu) (wj I.hok eb) dd hp ?_;rw[hp2];exact h w' _ (I.tok _) rw'
theorem tL{h':Heap}{t':Nat}{ob:HO}(I:Inv X pins σ H s)(mu:Mut (H a))(hs:Heap.SameBut a s.heap h')(he:∃ q,h'.get? a=some q)(new:ObjOk X.prog X.w (upd H a ob) h' a ob):
  Inv X pins σ (upd H a ob) { s with heap:=h',toks:=t' } :=
 I.write (x:=a) (e:=a) mu (.inl rfl) (fun b q hb z=>(hs.2 b hb).trans z) he new
theorem CT{P:Program}{w:World}{H':Hp}{h':Heap}{kvs:List (Key×V)}{vs:List (Key×Value)}(z:kvs.length<=sizeLine)(hd:(a == sysModules)=false)(rel:KV kvs vs)(dd:h'.DictOf (bM P w) a vs):
  ObjOk P w H' h' a (.dK kvs):=⟨z,hd,vs,rel,dd⟩
theorem CV{H':Hp}{Q:Unit->Shared->Prop}(hu:A.units+1<cLine)(I:Inv X pins σ H s)(g:DPut H a y v H')(ry:RelV y u)(rv:RelV v r)(h:∀ s',Inv X pins σ H' s'->Q () s'):
  wpAny (model X.prog X.w) A (setItem (.ref a) u r) Q E s:=by
 rcases g with⟨kvs,k,e,ey,l,eH⟩|⟨kvs,k,b,e,ey,eb,l,eH⟩
 . subst ey eH
   obtain⟨z,hd,vs,rel,dd⟩:=Jj I.hok e;have hz:vs.length<=sizeLine:=by rw[<- rel.length];exact z
   have hl:(putK kvs k v).length <= sizeLine:=by have:=jx kvs k v;omega
   refine wpAny_setItem_pairs (hsz:=hz) (mZ ry) dd fun h' dd' hs=>h _ ?_
   have he:∃ q,h'.get? a=some q:=let ⟨q,_,_,hq,_⟩:=dd';⟨q,hq⟩;exact tL I (by rw[e];exact True.intro) hs he (CT hl hd (rel.put k rv) dd')
 . subst ey eH
   cases(show u=Value.ref b from ry);obtain⟨z,hd,xs,rel,dd⟩:=Nz I.hok e;have hz:xs.length<=sizeLine:=by rw[<- Paired.length rel];exact z
   have hl:(putK kvs k v).length <= sizeLine:=by have:=jx kvs k v;omega
   refine wpAny_setItem_heap (hsz:=hz) (tupleKind_room_in1 hu) (wj I.hok eb) dd fun h' dd' hs=>h _ ?_
   obtain⟨q,es,ep,hq,h2,h3,h4,_,h5⟩:=dd';refine tL I (by rw[e];exact True.intro) hs ⟨q,hq⟩ ⟨hl,hd,_,(rel.put k eb rv).keeps fun c ys ec=>?_,q,es,ep,hq,h2,h3,h4,h5⟩;rw[aF (bH ec e (fun z=>nomatch z))];exact ec
end
section
variable{X:Cx}{pins:List (Addr×Obj)}{σ:St}{H:Hp}{s:Shared}{a:Addr}{kvs:List (Key×V)}{k:Key}{u:Value}{A:Around}{E:Value->Shared->Prop}
end
def Gi(i:Expr):Prop:=∀ ov iv,subscripted i false ov iv=operate [ov,iv] (getItem ov iv)
theorem yu{prog:Program}{w:World}{A:Around}{E:Value->Shared->Prop}{s:Shared}{env:Env}{value slice:Expr}{pos:Pos}{T id:String}{Q:Value->Shared->Prop}
  (hl:typeLookup (.type T) "__getitem__"=pure (some (.builtin id))) (hs:Gi slice)
  (h:wpAny (model prog w) A (eval value env) (fun o s₁=>wpAny (model prog w) A (eval slice env) (fun i s₂=>s₂.TypeIs o T/\wpAny (model prog w) A (getItem o i) Q E s₂) E s₁) E s):
  wpAny (model prog w) A (eval (.Subscript value slice pos) env) Q E s:=by
 refine Subscript_ (wpAny_mono h (fun o s₁ h₁=>wpAny_mono h₁ (fun i s₂ h₂=>?_) fun _ _ x=>x) fun _ _ x=>x);obtain⟨hT,h₂⟩:=h₂;unfold subscriptTail;refine wpAny_bind ?_;rw[getitemInPython_of_ne hT.not_modules];refine wpAny_bind (wpAny_specialOf hT hl ?_)
 have fin:wpAny (model prog w) A (subscripted slice false o i) (fun r s₃=>wpAny (model prog w) A (letTemporaryGo value o r >>= fun _=>pure r) Q E s₃) E s₂:=by
  rw[hs o i];exact wpAny_operating (wpAny_mono h₂ (fun r s₃ h₃=>wpAny_bind (wpAny_letTemporaryGo (wpAny_pure h₃))) fun _ _ x=>x)
 first
  |exact wpAny_pure (wpAny_bind fin)
  |exact wpAny_bind (wpAny_pure (wpAny_bind fin))
  |exact wpAny_bind fin
theorem xT{X:Cx}{pins:List (Addr×Obj)}{σ:St}{H:Hp}{s:Shared}{a:Addr}{y:V}{o:Option V}(I:Inv X pins σ H s)(g:DGet H a y o):s.TypeIs (.ref a) "dict":=by
 rcases g with⟨kvs,k,e,_,_⟩|⟨kvs,k,b,e,_,_,_⟩
 . obtain⟨_,_,vs,_,dd⟩:=Ao I.hok e
   exact dd.typeIs
 . obtain⟨_,_,xs,_,dd⟩:=Aq I.hok e
   exact dd.typeIs
def NB(td ty:TE):TE:=fun σ H Q=>td σ H fun x H1=>ty σ H1 fun y H2=>∃ a v,x = .ref a/\DGet H2 a y (some v)/\Q v H2
def NK(td ty tv:TE):TS:=fun D σ H=>tv σ H fun v H1=>td σ H1 fun x H2=>ty σ H2 fun y H3=>∃ a H4,x = .ref a/\DPut H3 a y v H4/\D.nx σ H4
section
variable{X:Cx}{o i e value:Expr}{pos pos' tpos:Pos}{td ty tv:TE}
theorem yw(hu:X.A.units+1<cLine)(ho:PE X o td)(hi:PE X i ty)(hs:Gi i):PE X (.Subscript o i pos) (NB td ty):=by
 intro pins s σ H Q I h;refine yu PySem.F.slot_dict_getitem.lookup hs (thn (ho pins s σ H _ I h) fun u s1 ⟨x,H1,I1,rx,q1⟩=>thn (hi pins s1 σ H1 _ I1 q1) fun iv s2 ⟨y,H2,I2,ry,a,v,ex,g,q2⟩=>?_);subst ex;obtain rfl:u=Value.ref a:=rx;exact⟨xT I2 g,CQ hu I2 g ry fun w' s3 I3 rw'=>⟨v,H2,I3,rw',q2⟩⟩
theorem tM(hu:X.A.units+1<cLine)(ho:PE X o td)(hi:PE X i ty)(hv:PE X value tv)(hs:swapsWith value (some (.Subscript o i pos')) pos.line X.env=pure false):
  PS X (.Assign [.Subscript o i pos'] value pos) (NK td ty tv):=by
 intro pins s σ H D I h;refine wpAny_Assign_Subscript (thn (hv pins s σ H _ I h) fun r s1 ⟨v,H1,I1,rv,q1⟩=>thn (ho pins s1 σ H1 _ I1 q1) fun u s2 ⟨x,H2,I2,rx,q2⟩=>thn (hi pins s2 σ H2 _ I2 q2) fun iv s3 ⟨y,H3,I3,ry,a,H4,ex,g,q3⟩=>?_) hs;subst ex;obtain rfl:u=Value.ref a:=rx;exact CV hu I3 g ry rv fun s4 I4=>⟨σ,H4,I4,q3⟩
end
theorem wk{P:Program}{w:World}{H:Hp}(h:Heap)(hb:sysModules<h.objs.size):ObjOk P w H (h.push { cls:=.type "dict",data:=.dict #[] }) h.objs.size (.dK []):=
 ⟨qnz _,beq_eq_false_iff_ne.mpr (Ne.symm (Nat.ne_of_lt hb)),[],.nil,Heap.DictOf.new h⟩
def Ls:TE:=fun _ H Q=>∀ p,H p=none->Q (.ref p) (upd H p (.dK []))
section
variable{X:Cx}{pos:Pos}
theorem qF:PE X (.Dict [] [] pos) Ls:=fun pins s σ H Q I h =>
 wpAny_Dict_empty ⟨.ref s.heap.objs.size,_,I.laid (a:=s.heap.objs.size) (o:=.dK []) (t':=s.toks) (fun _ _ q=>Heap.get?_push_of_some _ q) (qnr _) (wk s.heap I.big),rfl,h _ (I.hok.fresh (qnr _))⟩
end
def wu:List (TE×TE)->St->Hp->(List (V×V)->Hp->Prop)->Prop
 |[],_,H,Q=>Q [] H
 |(tk,tv):: r,σ,H,Q=>tk σ H fun x H1=>tv σ H1 fun y H2=>wu r σ H2 fun ps H3=>Q ((x,y):: ps) H3
abbrev VV:List (V×V)->List (Value×Value)->Prop:=Paired fun p q=>RelV p.1 q.1/\RelV p.2 q.2
def PPs(X:Cx)(pos:Pos)(keys:List (Option Expr))(values:List Expr)(trs:List (TE×TE)):Prop :=
 ∀(pins:List (Addr×Obj))(s:Shared)(σ:St)(H:Hp)(Q:List (V×V)->Hp->Prop),Inv X pins σ H s->wu trs σ H Q ->
  wpAny (model X.prog X.w) X.A (evalPairs (pairTrees keys values X.env pos)) (fun vs s'=>∃ ps H',Inv X pins σ H' s'/\VV ps vs/\Q ps H') X.xe s
theorem J0{X:Cx}{pos:Pos}:PPs X pos [] [] []:=fun pins s σ H Q I h=>pairTrees_nil_walk ⟨[],H,I,.nil,h⟩
theorem m5{X:Cx}{pos:Pos}{k v:Expr}{ks:List (Option Expr)}{vs:List Expr}{tk tv:TE}{trs:List (TE×TE)}(hk:PE X k tk)(hv:PE X v tv)(hr:PPs X pos ks vs trs):
  PPs X pos (some k::ks) (v::vs) ((tk,tv):: trs):=fun pins s σ H Q I h =>
 pairTrees_cons_walk (thn (hk pins s σ H _ I h) fun u s1 ⟨x,H1,I1,rx,q1⟩=>thn (hv pins s1 σ H1 _ I1 q1) fun w2 s2 ⟨y,H2,I2,ry,q2⟩ =>
  thn (hr pins s2 σ H2 _ I2 q2) fun ws s3 ⟨ps,H3,I3,rel,q3⟩=>⟨(x,y):: ps,H3,I3,.cons ⟨rx,ry⟩ rel,q3⟩)
def kh(kvs more:List (Key×V)):List (Key×V):=more.foldl (fun acc kv=>putK acc kv.1 kv.2) kvs
theorem KV.merge:∀{more:List (Key×V)}{rs:List (Key×Value)}{kvs:List (Key×V)}{vs:List (Key×Value)},KV more rs->KV kvs vs->KV (kh kvs more) (merged vs rs):=by
 intro more rs kvs vs r;unfold KV at r
 induction r generalizing kvs vs with
 |nil=>intro q;exact q
 | @cons p q ps qs h t ih =>
  intro r0
  have e:KV (putK kvs p.1 p.2) (stored vs q.1 q.2):=by
   have:=r0.put p.1 h.2;rw[<- h.1];exact this
  exact ih e
theorem nW:∀(more kvs:List (Key×V)),(kh kvs more).length <= kvs.length+more.length
 |[],kvs=>by show kvs.length<=kvs.length+0;omega
 | p::r,kvs=>by
  have h1:=nW r (putK kvs p.1 p.2);have h2:=jx kvs p.1 p.2;show(kh (putK kvs p.1 p.2) r).length <= _;rw[List.length_cons];omega
theorem rO{P:Program}{w:World}:∀{kvs:List (Key×V)}{ws:List (Value×Value)},VV (kvs.map fun kv=>(kV kv.1,kv.2)) ws->∃ rs,Carries (bM P w) ws rs/\KV kvs rs
 |[],_,r=>by rw[List.map_nil]at r;cases r;exact⟨[],True.intro,.nil⟩
 | p::kvs,_,r=>by
  rw[List.map_cons]at r;cases r with
  | @cons a b as bs h t =>
   obtain⟨rs,c,q⟩:=rO (P:=P) (w:=w) t;obtain⟨b1,b2⟩:=b;exact⟨(p.1,b2):: rs,⟨mZ h.1,rfl,c⟩,.cons ⟨rfl,h.2⟩ q⟩
def NP(trs:List (TE×TE)):TE:=fun σ H Q=>∀ p,H p=none->wu trs σ (upd H p (.dK [])) fun ps H2=>H2 p=some (.dK [])/\∃ kvs:List (Key×V),ps=kvs.map (fun kv=>(kV kv.1,kv.2))/\kvs.length<=15/\Q (.ref p) (upd H2 p (.dK (kh [] kvs)))
theorem J1{X:Cx}{pos:Pos}{keys:List (Option Expr)}{values:List Expr}{trs:List (TE×TE)}(h:PPs X pos keys values trs)(hall:keys.all (·.isSome)=true)(hl:keys.length=values.length)(h0:keys≠[])
  (h15:keys.length<=15):PE X (.Dict keys values pos) (NP trs):=by
 intro pins s σ H Q I q;have hn:=I.hok.fresh (qnr s.heap.objs.size);have I1:=I.laid (a:=s.heap.objs.size) (o:=.dK []) (h':=s.heap.push { cls:=.type "dict",data:=.dict #[] }) (t':=s.toks) (fun _ _ q=>Heap.get?_push_of_some _ q) (qnr _) (wk s.heap I.big);refine wpAny_Dict_walk (knd:=bM X.prog X.w) hall hl h0 h15 (thn (h pins _ σ _ _ I1 (q _ hn)) fun ws s2 ⟨ps,H2,I2,rel,e,kvs,ep,lk,q2⟩=>?_);subst ep;obtain⟨rs,c,rk⟩:=rO (P:=X.prog) (w:=X.w) rel;obtain⟨z,hd,vs0,r0,dd⟩:=Jj I2.hok e;cases r0;refine⟨rs,c,dd,fun h' dd' hs=>⟨.ref s.heap.objs.size,_,?_,rfl,q2⟩⟩
 have hz:(kh [] kvs).length <= sizeLine:=by
  have h1:=nW kvs [];rw[List.length_nil]at h1;rw[sizeLine_eq];omega
 have he:∃ q,h'.get? s.heap.objs.size=some q:=let ⟨q,_,_,hq,_⟩:=dd';⟨q,hq⟩;exact tL I2 (by rw[e];exact True.intro) hs he (CT hz hd (rk.merge .nil) dd')
section
variable{X:Cx}{pins:List (Addr×Obj)}{σ:St}{H:Hp}{s:Shared}{a:Addr}{y d:V}{u r:Value}{o:Option V}{A:Around}{E:Value->Shared->Prop}
end
section
variable{X:Cx}{o e f:Expr}{apos cpos:Pos}{td ty tx:TE}
end
section
variable{X:Cx}{pins:List (Addr×Obj)}{σ:St}{H:Hp}{s:Shared}{a:Addr}{kvs:List (Key×V)}{A:Around}{E:Value->Shared->Prop}
end
section
variable{X:Cx}{pins:List (Addr×Obj)}{σ:St}{H:Hp}{s:Shared}{a:Addr}{y:V}{u:Value}{A:Around}{E:Value->Shared->Prop}
end
end L2
namespace Att
open PySem PySem.W PySem.Calls PyProof.Rows
section
variable{prog:Program}{w:World}{A:Around}{E:Value->Shared->Prop}{s:Shared}{K:Frag}
end
end Att
namespace L2
open PySem PySem.Spec PyProof.Rows
end L2
namespace L2
open PySem PySem.Spec PyProof.Rows
end L2
namespace L2
open PySem PySem.Spec PyProof.Rows
section
variable{P:Program}{w:World}{K:W.Frag}{mg:Str->Option Value}{base:Heap}
end
section
variable{X:Cx}
end
section
variable{κ:Type}[DecidableEq κ]
theorem yx:∀{l:List κ}{k:κ},l.Nodup->¬ k∈l->(l++[k]).Nodup
 |[],k,_,_=>by simp
 | a::r,k,h,hk=>by
  obtain⟨h1,h2⟩:=List.nodup_cons.mp h;show(a::(r++[k])).Nodup;refine List.nodup_cons.mpr ⟨fun m=>?_,yx h2 fun m=>hk (List.mem_cons.mpr (Or.inr m))⟩;rcases List.mem_append.mp m with q|q
  . exact h1 q
  . exact hk (List.mem_cons.mpr (Or.inl (List.mem_singleton.mp q).symm))
end
end L2
namespace L2
open PySem PySem.Spec PyProof.Rows
theorem qG{α β:Type}{l:List α}{f:α->β->Sem (ForInStep β)}(g:α->β->β)(c:β)(h:∀ x∈l,∀ c,f x c=pure (.yield (g x c))):
  forIn l c f=(pure (l.foldl (fun c x=>g x c) c):Sem β):=by
 induction l generalizing c with
 |nil=>rfl
 | cons x l ih =>
  rw[List.forIn_cons,h x qms,pure_bind];exact ih (g x c) fun y hy=>h y (qmm _ hy)
def dZ(env:Env)(names:List (Str×NameKind)):List (Str×Addr):=
 names.foldl (fun c x=>if x.2 == .free then(x.1,(env.cells.lookup x.1).getD 0):: c else c) []
theorem vA{scope:Scope}{env:Env}(h:∀ y∈scope.names,y.2 = .free -> ∃ c,env.cells.lookup y.1=some c):closureFor scope env=pure (dZ env scope.names):=by
 unfold dZ;simp only[closureFor]
 rw [qG (fun x c=>if x.2 == .free then(x.1,(env.cells.lookup x.1).getD 0):: c else c) [] (fun x hx c=>by
  obtain⟨n,kind⟩:=x
  by_cases e:kind=NameKind.free
  . subst e
    obtain⟨a,ha⟩:=h _ hx rfl;have ha':env.cells.lookup n=some a:=ha;simp only[beq_self_eq_true,if_true,cellOf,ha',Option.getD_some,pure_bind]
  . have e':(kind == NameKind.free)=false:=by simpa using e
    simp only[e',Bool.false_eq_true,if_false])]
 rfl
theorem mem_closeL{env:Env}:∀{names:List (Str×NameKind)}{acc:List (Str×Addr)}{p:Str×Addr},
  p∈names.foldl (fun c x=>if x.2 == .free then(x.1,(env.cells.lookup x.1).getD 0):: c else c) acc↔p∈acc\/∃ y∈names,y.2 = .free /\ p=(y.1,(env.cells.lookup y.1).getD 0)
 |[],acc,p=>by simp
 | x::r,acc,p=>by
  rw[List.foldl_cons,mem_closeL]
  by_cases e:x.2=NameKind.free
  . rw [qp (by simpa using e)]
    constructor
    . rintro(h|⟨y,hy,h1,h2⟩)
      . rcases List.mem_cons.mp h with h|h
        . exact .inr ⟨x,qms,e,h⟩
        . exact .inl h
      . exact .inr ⟨y,qmm _ hy,h1,h2⟩
    . rintro(h|⟨y,hy,h1,h2⟩)
      . exact .inl (qmm _ h)
      . rcases List.mem_cons.mp hy with rfl|hy
        . exact .inl (h2 ▸ qms)
        . exact .inr ⟨y,hy,h1,h2⟩
  . rw [qnZ (by simpa using e)]
    constructor
    . rintro(h|⟨y,hy,h1,h2⟩)
      . exact .inl h
      . exact .inr ⟨y,qmm _ hy,h1,h2⟩
    . rintro(h|⟨y,hy,h1,h2⟩)
      . exact .inl h
      . rcases List.mem_cons.mp hy with rfl|hy
        . exact absurd h1 e
        . exact .inr ⟨y,hy,h1,h2⟩
theorem mem_of_lookup{β:Type}:∀{l:List (Str×β)}{x:Str}{c:β},l.lookup x=some c->(x,c)∈l
 |[],_,_,h=>by simp at h
 | (n,d):: r,x,c,h=>by
  rw[List.lookup_cons]at h;cases e:x == n with
  | true =>
   rw[e]at h;have e':x=n:=by simpa using e
   subst e';cases h;exact qms
  | false =>
   rw[e]at h;exact qmm _ (mem_of_lookup h)
theorem nY{β:Type}:∀{l:List (Str×β)}{x:Str}{c:β},(x,c)∈l->∃ d,l.lookup x=some d
 |[],_,_,h=>nomatch h
 | (n, d):: r,x,c,h=>by
  rw[List.lookup_cons];cases e:x == n with
  |true=>exact⟨d,rfl⟩
  | false =>
   rcases List.mem_cons.mp h with h|h
   . injection h with h1 _
     subst h1;simp at e
   . exact nY h
theorem fV{env:Env}{names:List (Str×NameKind)}(h:∀ y∈names,y.2 = .free -> ∃ c,env.cells.lookup y.1=some c){x:Str}{c:Addr}(e:(dZ env names).lookup x=some c):env.cells.lookup x=some c:=by
 rcases mem_closeL.mp (mem_of_lookup e)with z|⟨y,hy,h1,h2⟩
 . cases z
 . obtain⟨d,hd⟩:=h y hy h1
   injection h2 with e1 e2
   subst e1;rw[hd]at e2;rw[hd,e2]
   rfl
theorem rP{env:Env}{names:List (Str×NameKind)}{x:Str}(h:(x,NameKind.free)∈names):∃ c,(dZ env names).lookup x=some c :=
 nY (mem_closeL.mpr (.inr ⟨_,h,rfl,rfl⟩))
theorem mJ{env:Env}:∀{names:List (Str×NameKind)}{x:Str}{k:NameKind},
  (names.map fun(n,k)=>if (k == NameKind.free && env.scope.kind == .function && env.kindOf n == some .cell)then(n,NameKind.cell)else(n,k)).lookup x=some k ->
  ∃ k0,names.lookup x=some k0/\(k=k0\/(k0 = .free /\ k = .cell))
 |[],_,_,h=>by simp at h
 | (n, k):: r,x,k',h=>by
  have ih:=@mJ env r x k';rw[List.map_cons]at h
  by_cases hc:(k == NameKind.free && env.scope.kind == .function && env.kindOf n == some .cell)=true
  . dsimp only at h
    rw[qp hc,List.lookup_cons]at h;rw[List.lookup_cons];cases e:x == n with
    | true =>
     rw[e]at h;cases h;refine⟨k,rfl,.inr ⟨?_,rfl⟩⟩;simp only[Bool.and_eq_true,beq_iff_eq]at hc;exact hc.1.1
    | false =>
     rw[e]at h;exact ih h
  . dsimp only at h
    rw[qnZ hc,List.lookup_cons]at h;rw[List.lookup_cons];cases e:x == n with
    | true =>
     rw[e]at h;cases h;exact⟨k,rfl,.inl rfl⟩
    | false =>
     rw[e]at h;exact ih h
theorem oG{env:Env}:∀{names:List (Str×NameKind)}{x:Str},names.lookup x=some .free ->
  (names.map fun(n,k)=>if (k == NameKind.free && env.scope.kind == .function && env.kindOf n == some .cell)then(n,NameKind.cell)else(n,k)).lookup x=some .cell \/
  (names.map fun(n,k)=>if (k == NameKind.free && env.scope.kind == .function && env.kindOf n == some .cell)then(n,NameKind.cell)else(n,k)).lookup x=some .free
 |[],_,h=>by simp at h
 | (n, k):: r,x,h=>by
  have ih:=@oG env r x;rw[List.map_cons];rw[List.lookup_cons]at h
  by_cases hc:(k == NameKind.free && env.scope.kind == .function && env.kindOf n == some .cell)=true
  . dsimp only
    rw[qp hc,List.lookup_cons];cases e:x == n with
    |true=>exact .inl rfl
    | false =>
     rw[e]at h;exact ih h
  . dsimp only
    rw[qnZ hc,List.lookup_cons];cases e:x == n with
    | true =>
     rw[e]at h;cases h;exact .inr rfl
    | false =>
     rw[e]at h;exact ih h
theorem CW{prog:Program}{w:World}{A:Around}{R:Result->Shared->Prop}{s:Shared}{elt target iter:Expr}{ifs:List Expr}{scope:Scope}{pos:Pos}{it acc:Value}{env:Env}(I:Nat->Shared->Prop)
  (turn : ∀ n s,I n s->wpAny (model prog w) A (pyNext it) (fun r s₁=>match r with
   |none=>R (.ok .next) s₁
   | some v=>wpAny (model prog w) A (letOwnedTupleGo target it v) (fun _ s₁'=>wpAny (model prog w) A (assign target env v) (fun _ s₂ =>
     wpAny (model prog w) A (forIn ifs true fun c r=>if r=true then do let ok <- isTrue c env (eval c env);pure (ForInStep.yield ok)else pure (ForInStep.yield r)) (fun ok s₃ =>
      if ok=true then wpAny (model prog w) A (eval elt env) (fun x s₄ =>
       wpAny (model prog w) A (call (.builtin "list.append") [acc,x]) (fun _ s₅=>∃ m,m<n/\I m s₅) (fun _ _=>False) s₄) (fun _ _=>False) s₃
      else ∃ m,m<n/\I m s₃) (fun _ _=>False) s₂) (fun _ _=>False) s₁') (fun _ _=>False) s₁) (fun _ _=>False) s)
  (n:Nat) (h:I n s):
  codeAny (model prog w) A (.compLoop (.ListComp elt [⟨target,iter,ifs,0⟩] scope pos) 0 it acc env) R s:=by
 refine codeAny_loop rfl I (fun n s hI=>?_) n h;show wpAny _ A ((compTurn (.ListComp elt [⟨target,iter,ifs,0⟩] scope pos) 0 it acc env).onRaise (fun x=>do noteFrame x env;theTreesLotGoes x)) _ _ s;refine wpAny_noted ?_;rw[compTurn_list];refine wpAny_bind (wpAny_standAt (wpAny_bind (wpAny_mono (turn n s hI) (fun r s₁ h₁=>?_) fun _ _ h'=>h'.elim)));cases r with
 |none=>exact wpAny_pure h₁
 | some v =>
  refine wpAny_bind (wpAny_mono h₁ (fun _ s₁' h₁'=>?_) fun _ _ h'=>h'.elim);refine wpAny_bind (wpAny_mono h₁' (fun _ s₂ h₂=>wpAny_bind (wpAny_mono h₂ (fun ok s₃ h₃=>?_) fun _ _ h'=>h'.elim)) fun _ _ h'=>h'.elim);cases ok with
  |false=>exact wpAny_pure ⟨rfl,h₃⟩
  | true =>
   exact wpAny_bind (wpAny_bind (wpAny_mono h₃ (fun x s₄ h₄=>wpAny_bind (wpAny_mono h₄ (fun _ s₅ h₅=>wpAny_pure (wpAny_pure ⟨rfl,h₅⟩)) fun _ _ h'=>h'.elim)) fun _ _ h'=>h'.elim))
def Cx.blk(X:Cx)(pins:List (Addr×Obj))(scope:Scope)(cl:List (Str×Addr))(C:Addr)(N':List Str)(fp:List Addr)(s:Shared)(H:Hp):Cx :=
 { X with N:=N',s₀:=s,H₀:=H,env:=compEnvC scope cl C X.env,outer:=X.stack,ex:=fp,fn:=fun _=>false,pn:=X.pn++pins,xe:=fun _ _=>False }
def cR(ix:List (Option Nat))(σ:St):St:=ix.map fun o=>o.bind fun i=>(σ[i]?).join
def Ext:St->St->Prop
 |[],[]=>True
 |none::a,_::b=>Ext a b
 |some v::a,o::b=>o=some v/\Ext a b
 |_,_=>False
theorem Ext.get:∀{a b:St},Ext a b->∀(j:Nat)(v:V),a[j]? = some (some v)->b[j]? = some (some v)
 |[],[],_,j,v,h=>by simp at h
 |none::a,_::b,e,0,v,h=>by simp at h
 | none::a,_::b,e,j+1,v,h=>by
  have e:Ext a b:=e;rw[List.getElem?_cons_succ]at h ⊢;exact e.get j v h
 | some u::a,o::b,e,0,v,h=>by
  have e1:o=some u:=e.1;rw[List.getElem?_cons_zero]at h ⊢;rw[e1];exact h
 | some u::a,o::b,e,j+1,v,h=>by
  have e:Ext a b:=e.2;rw[List.getElem?_cons_succ]at h ⊢;exact e.get j v h
 |[],_::_,e,_,_,_=>e.elim
 |none::_,[],e,_,_,_=>e.elim
 |some _::_,[],e,_,_,_=>e.elim
theorem Ext.length:∀{a b:St},Ext a b->a.length=b.length
 |[],[],_=>rfl
 | none::a,_::b,e=>by
  have e:Ext a b:=e;simp[e.length]
 | some u::a,o::b,e=>by
  have e:Ext a b:=e.2;simp[e.length]
 |[],_::_,e=>e.elim
 |none::_,[],e=>e.elim
 |some _::_,[],e=>e.elim
def vJ(sc:Scope)(N:List Str)(scope:Scope)(N':List Str)(ix:List (Option Nat)):Bool :=
 decide (scope.kind = .function) && decide (∀ y∈scope.names,y.2≠.cell) && decide (∀ y∈scope.names,y.2 = .local -> scope.names.lookup y.1=some .local) &&
 decide (∀ y∈scope.names,y.2 = .free -> sc.names.lookup y.1=some .cell \/ sc.names.lookup y.1=some .free) && decide (ix.length=N'.length) &&
 ((N'.zip ix).all fun p=>p.2.all fun i=>decide (N[i]? = some p.1) && decide (scope.names.lookup p.1=some .free))
structure BlkOk(sc:Scope)(N:List Str)(scope:Scope)(N':List Str)(ix:List (Option Nat)):Prop where
 kind:scope.kind = .function
 nocell:∀ y∈scope.names,y.2≠.cell
 names:∀ y∈scope.names,y.2 = .local -> scope.names.lookup y.1=some .local
 free:∀ y∈scope.names,y.2 = .free -> sc.names.lookup y.1=some .cell \/ sc.names.lookup y.1=some .free
 len:ix.length=N'.length
 at_:∀(j:Nat)(x:Str)(i:Nat),N'[j]? = some x->ix[j]? = some (some i)->N[i]? = some x/\scope.names.lookup x=some .free
theorem BlkOk.of{sc:Scope}{N:List Str}{scope:Scope}{N':List Str}{ix:List (Option Nat)}(h:vJ sc N scope N' ix=true):BlkOk sc N scope N' ix:=by
 unfold vJ at h;simp only[Bool.and_eq_true,decide_eq_true_eq]at h;obtain⟨⟨⟨⟨⟨h1,h2⟩,h3⟩,h4⟩,h5⟩,h6⟩:=h;refine⟨h1,h2,h3,h4,h5,fun j x i e1 e2=>?_⟩
 have hz:(N'.zip ix)[j]? = some (x,some i):=by
  rw[List.getElem?_zip_eq_some];exact⟨e1,e2⟩
 have hm:(x,some i)∈N'.zip ix:=qmg hz;have q:=List.all_eq_true.mp h6 _ hm;simp only[Option.all_some,Bool.and_eq_true,decide_eq_true_eq]at q;exact q
abbrev aL(its:List Value):Obj:={ cls:=.type "list",data:=.seq its.toArray its.length }
section
variable{X:Cx}{pins:List (Addr×Obj)}{σ:St}{H:Hp}{s:Shared}{sc:Scope}{N N':List Str}{scope:Scope}{ix:List (Option Nat)}{fp:List Addr}{C:Addr}
theorem iH(ok:X.Ok)(hsc:X.env.scope=sc)(B:BlkOk sc N scope N' ix):∀ y∈scope.names,y.2 = .free -> ∃ c,X.env.cells.lookup y.1=some c:=fun y hy e=>by
 have q:=B.free y hy e;rw[<- hsc]at q;exact ok.has y.1 q
theorem Lw(I:Inv X pins σ H s)(hsc:X.env.scope=sc)(B:BlkOk sc N scope N' ix)(hf:∀ b∈fp,jg X pins H b)(hlt:∀ b∈fp,b<s.heap.objs.size)(hC:s.heap.objs.size<=C):
  (X.blk pins scope (dZ X.env scope.names) C N' fp s H).Ok where
 mod:=I.ok.mod
 kind:=B.kind
 glob:=I.ok.glob
 blt:=I.ok.blt
 above:=hC
 inj:=fun x y c a b=>I.ok.inj x y c (fV (iH I.ok hsc B) a) (fV (iH I.ok hsc B) b)
 has := fun x h=>by
  have z:∃ k,(relabel scope X.env).names.lookup x=some k/\(k = .cell \/ k = .free):=by
   rcases h with h|h
   . exact⟨_,h,.inl rfl⟩
   . exact⟨_,h,.inr rfl⟩
  obtain⟨k,hk,hk'⟩:=z;obtain⟨k0,h0,h1⟩:=mJ (env:=X.env) (names:=scope.names) hk;have hm:=mem_of_lookup h0
  have e:k0 = .free:=by
   rcases h1 with h1|h1
   . subst h1
     rcases hk' with e|e
     . exact absurd e (B.nocell _ hm)
     . exact e
   . exact h1.1
  subst e;exact rP hm
 cab:=fun x c h _=>by cases h
 hd:=I.ok.hd
 frames:=I.ok.frames
 stk:=.inl rfl
 exf := fun b hb=>⟨fun e=>by
     have:=hlt b hb;have e':b=C:=e;subst e'
     exact absurd (Nat.lt_of_lt_of_le this hC) (Nat.lt_irrefl _),fun x c e=>(hf b hb).2.2.2.2.1 x c (fV (iH I.ok hsc B) e)⟩
 bs:=I.bs
 bsz:=qnt I.ok.bsz I.sz
 noex:=fun b o e hb=>by
  rcases(hf b hb).2.2.2.1 with z|z
  . exact I.ok.noex b o e z
  . have q:=Heap.lt_size (I.ok.bs b o e).1
    exact absurd (Nat.lt_of_lt_of_le q z) (Nat.lt_irrefl _)
 exfs:=fun b hb z=>by
  rcases List.mem_cons.mp (I.stkSub b z)with e|e
  . exact(hf b hb).2.1 e
  . exact(hf b hb).2.2.1 e
 funs:=I.stack
 frf:=I.stkFree
theorem J2{s1:Shared}{h1:Heap}{tk:Nat}{D:Addr}{its:List Value}(I:Inv X pins σ H s)(hsc:X.env.scope=sc)(hN:X.N=N)(B:BlkOk sc N scope N' ix)(hf:∀ b∈fp,jg X pins H b)(hlt:∀ b∈fp,b<s.heap.objs.size)(hC:s.heap.objs.size<=C)
  (hD:s.heap.objs.size<=D) (hDC:D≠C) (old:∀ b o,s.heap.get? b=some o->h1.get? b=some o) (hns:h1.Ns C (fun _=>none)) (ho:h1.get? D=some (aL its)) (e:s1 = { s with heap:=h1,toks:=tk }):
  Inv (X.blk pins scope (dZ X.env scope.names) C N' fp s H) [(D,aL its)] (cR ix σ) H s1:=by
 subst e;have ok':=Lw (C:=C) I hsc B hf hlt hC;have cells:=iH I.ok hsc B;have fresh:∀ a,s.heap.objs.size<=a->H a=none:=fun a ha=>I.hok.fresh ha
 refine⟨ok',rfl,I.bare,Un.kept old,?_,?_,fresh C hC,?_,?_,I.hok.kept old,?_⟩
 . refine ⟨_,hns,fun j x v e1 e2 hv=>?_⟩
   have e2:(cR ix σ)[j]? = some (some v):=e2;unfold cR at e2;rw[qgm]at e2;cases q:ix[j]? with
   |none=>rw[q]at e2;cases e2
   | some o =>
    rw[q]at e2;cases o with
    |none=>cases e2
    | some i =>
     have e3:(σ[i]?).join=some v:=by simpa using e2
     have e4:σ[i]? = some (some v):=by
      cases r:σ[i]? with
      |none=>rw[r]at e3;cases e3
      | some o =>
       rw[r]at e3;have e3:o=some v:=e3;rw[e3]
     obtain⟨n1,n2⟩:=B.at_ j x i e1 q;have n3:=B.free _ (mem_of_lookup n2) rfl;obtain⟨m,hm,hl⟩:=I.loc
     have vis:Vis X.env.scope x:=by
      rw[hsc];exact .inr n3
     obtain⟨u,r,l⟩:=hl i x v (by rw[hN];exact n1) e4 vis;refine⟨u,r,.inr ⟨oG (env:=X.env) n2,?_⟩⟩;obtain⟨c,hc⟩:=rP (env:=X.env) (mem_of_lookup n2);refine⟨c,hc,?_⟩;have hc':=fV cells hc;rcases l with⟨k,_⟩|⟨_,c',e5,o',z1,z2⟩
     . have k:X.env.scope.names.lookup x=some .local:=k
       rw[hsc]at k;rcases n3 with z|z
       . rw[k]at z;cases z
       . rw[k]at z;cases z
     . rw[hc']at e5
       cases e5;exact⟨o',old _ _ z1,z2⟩
 . intro x c e
   obtain⟨v,o,z1,z2⟩:=I.cell x c (fV cells e);exact⟨v,o,old _ _ z1,z2⟩
 . intro x c e
   exact I.freeC x c (fV cells e)
 . intro p hp
   rcases List.mem_append.mp hp with hp|hp
   . obtain⟨p1,p2,p3,p4,p5⟩:=I.pin p hp
     refine⟨old _ _ p1,p2,fun z=>?_,fun z=>?_,p5⟩
     . have z:p.1=C:=z
       have:=Heap.lt_size p1;rw[z]at this;exact absurd (Nat.lt_of_lt_of_le this hC) (Nat.lt_irrefl _)
     . rcases List.mem_cons.mp (I.stkSub p.1 z)with e|e
       . exact p3 e
       . exact p4 e
   . have hp:p=(D,aL its):=List.mem_singleton.mp hp
     subst hp;refine⟨ho,fresh D hD,hDC,fun z=>?_,fun v e=>by cases e⟩
     have q:∃ o,s.heap.get? D=some o:=by
      obtain⟨_,o,z,_⟩:=I.stack.mem z;exact⟨o,z⟩
     obtain⟨o,q⟩:=q;exact absurd (Nat.lt_of_lt_of_le (Heap.lt_size q) hD) (Nat.lt_irrefl _)
 . show(ix.map _).length=N'.length
   rw[qlm];exact B.len
theorem CZ{s4:Shared}{H4:Hp}{σ':St}{D:Addr}{its:List Value}{ys:List V}{cl:List (Str×Addr)}(I:Inv X pins σ H s)(hf:∀ b∈fp,jg X pins H b)(hD:s.heap.objs.size<=D)(hC:s.heap.objs.size<=C)
  (J:Inv (X.blk pins scope cl C N' fp s H) [(D,aL its)] σ' H4 s4) (rv:Vals ys its) (hl:ys.length<=sizeLine):Inv X pins σ (upd H4 D (.lst ys)) s4:=by
 have pD:=J.pin (D,aL its) (qar _ qms);have hD4:H4 D=none:=pD.2.1
 have neD:∀ b o,s.heap.get? b=some o->b≠D:=fun b o e z=>by
  have:=Heap.lt_size e;rw[z]at this;exact absurd (Nat.lt_of_lt_of_le this hD) (Nat.lt_irrefl _)
 have u:=J.base;have u:Un (frs X.stack) fp H H4 s.heap s4.heap:=u;refine I.call' (ch:=fp) J.os ⟨u.keep,u.slot,fun b o e n hx=>?_,u.there,fun b xs e=>?_,fun b o x e=>?_,fun b ps e=>?_⟩ ?_ J.bare (fun b hb=>⟨(hf b hb).2.2.2.1,(hf b hb).2.1,(hf b hb).2.2.2.2.1,(hf b hb).2.2.2.2.2⟩)
 . rw[aF (neD b o e)]
   exact u.free b o e n hx
 . have q:=u.tups b xs e
   rw[aF (aM q hD4)];exact q
 . have q:=u.frzs b o x e
   rw[aF (aM q hD4)];exact q
 . obtain⟨more,q⟩:=u.tbls b ps e
   exact⟨more,by rw[aF (aM q hD4)];exact q⟩
 . intro b o e
   by_cases hb:b=D
   . subst hb
     rw[au]at e;cases e;exact⟨hl,its,_,rv,pD.1⟩
   . rw[aF hb]at e
     exact(J.hok b o e).stay (fun _ _ _ q=>q) (fun c q=>by rw[aF (aM q hD4)];exact q) fun c xs q=>by rw[aF (aM q hD4)];exact q
end
def PTs(X:Cx)(ifs:List Expr)(t:TT):Prop :=
 ∀(pins:List (Addr×Obj))(s:Shared)(σ:St)(H:Hp)(Q:Bool->Hp->Prop),Inv X pins σ H s->t σ H Q ->
  wpAny (model X.prog X.w) X.A (forIn ifs true fun c r=>if r=true then do let ok <- isTrue c X.env (eval c X.env);pure (ForInStep.yield ok)else pure (ForInStep.yield r)) (TP X pins σ Q) X.xe s
def Ar:TT:=fun _ H Q=>Q true H
theorem cN{X:Cx}:PTs X [] Ar:=fun pins s σ H Q I h=>wpAny_tests_nil ⟨H,I,h⟩
theorem gG{X:Cx}{c:Expr}{t:TT}(h:PT X c t):PTs X [c] t:=fun pins s σ H Q I q=>wpAny_tests_one (h pins s σ H Q I q)
def jE(J:It)(ix:List (Option Nat))(g:TG)(tt:TT)(te:TE)(σ:St)(H:Hp)(Q:VK):Prop :=
 ∃ W : Nat->Nat->List V->Hp->Prop,(∃ m,W 0 m [] H)/\∀ i m ys H,W i m ys H->ys.length<=sizeLine /\
  ((J.stop i H/\∀ p,H p=none->Q (.ref p) (upd H p (.lst ys))) \/
  (J.go i H/\∃ N:List V->Hp->Prop,(∀ ys' H',N ys' H'->∃ m',m'<m/\W (i+1) m' ys' H') /\
   ∀ x H',J.yld i H x H'->g x (cR ix σ) H' fun σ2 H2=>Ext (cR ix σ) σ2/\tt σ2 H2 fun ok H3=>if ok=true then te σ2 H3 fun y H4=>N (ys++[y]) H4 else N ys H3))
def Av(wi:TI)(ix:List (Option Nat))(g:TG)(tt:TT)(te:TE):TE:=fun σ H Q=>wi σ H fun J H1=>jE J ix g tt te σ H1 Q
section
variable{X:Cx}{sc:Scope}{N N':List Str}{scope:Scope}{ix:List (Option Nat)}{tg iter elt:Expr}{ifs:List Expr}{pos:Pos}{wi:TI}{g:TG}{tt:TT}{te:TE}
theorem yz{use:Option (Value->Sem Unit)}{QQ:Value->Shared->Prop}{pins:List (Addr×Obj)}{σ:St}{H:Hp}{s:Shared}{Q:VK}{cpos:Pos}(hc:X.calm=true)(hi:PI X tg iter wi)
  (hsc:X.env.scope=sc) (hN:X.N=N) (B:BlkOk sc N scope N' ix)
  (hg:∀ pins cl C fp s H,PG (X.blk pins scope cl C N' fp s H) tg g) (ht:∀ pins cl C fp s H,PTs (X.blk pins scope cl C N' fp s H) ifs tt) (he:∀ pins cl C fp s H,PE (X.blk pins scope cl C N' fp s H) elt te)
  (hs:∀ x,foldedSetIterable iter X.env x=pure x) (I:Inv X pins σ H s) (h:Av wi ix g tt te σ H Q)
  (fin:∀(D C:Addr)(s4:Shared)(H4:Hp)(m:Str->Option Value),Inv X pins σ H4 s4->Q (.ref D) H4->s4.heap.Ns C m->jg X pins H4 C ->
   compPost (model X.prog X.w) X.A X.xe use QQ (.ref D) C (.ok .next) s4):
  wpAny (model X.prog X.w) X.A (comprehension (.ListComp elt [⟨tg,iter,ifs,0⟩] scope pos) scope X.env cpos (newList []) false (eval iter X.env) use) QQ X.xe s:=by
 refine wpAny_comprehension_free (use:=use) rfl hs (vA (iH I.ok hsc B)) B.kind B.names (thn (hi pins s σ H _ I h) fun v s1 h1=>thn h1 fun itv s2 h2=>?_);obtain⟨it,fp,tn,J,H2,e,I2,T,st2,f2,W,⟨m0,w0⟩,turn⟩:=h2;subst e;refine wpAny_newObj_type (wpAny_newFunctionEnv B.nocell (by intro y hy;simp at hy) (fun h₁ hns₁ hsb₁=>?_) B.kind);dsimp only at hns₁ hsb₁ ⊢;generalize hH2:s2.heap.push { cls:=.type "list",dict:=none,data:=.seq ([]:List Value).toArray }=G2 at hns₁ hsb₁ ⊢;have hC:G2.objs.size=s2.heap.objs.size+1:=by rw[<- hH2,Heap.size_push]
 have hCle:s2.heap.objs.size<=G2.objs.size:=by rw[hC];exact Nat.le_succ _
 have hDC:s2.heap.objs.size≠G2.objs.size:=by rw[hC];exact Nat.ne_of_lt (Nat.lt_succ_self _)
 have old:∀ b o,s2.heap.get? b=some o->h₁.get? b=some o:=fun b o e=>hsb₁.extBut b o (by rw[hC];exact Nat.ne_of_lt (Nat.lt_succ_of_lt (Heap.lt_size e))) (Heap.get?_push_of_some _ (hH2 ▸ Heap.get?_push_of_some _ e))
 have hacc:h₁.get? s2.heap.objs.size=some (aL []):=hsb₁.extBut _ _ hDC (Heap.get?_push_of_some _ (hH2 ▸ Heap.get?_push_size _ rfl))
 have hlt:∀ b∈fp,b<s2.heap.objs.size:=fun b hb=>by
  obtain⟨o,e,_⟩:=T.obj _ _ st2 b hb;exact Heap.lt_size e
 have st1:tn 0 h₁:=T.keep _ _ _ st2 fun b _ o e=>old b o e
 have I1:=J2 (fp:=fp) (C:=G2.objs.size) (D:=s2.heap.objs.size) (its:=[]) (h1:=h₁) (tk:=s2.toks+([]:List (Str×Value)).length) I2 hsc hN B f2 hlt hCle (qnr _) hDC old hns₁ hacc rfl
 have fpk:∀{H':Hp}{pl:List (Addr×Obj)},(∀ b∈fp,H' b=none)->(∀ p∈pl,p.1=s2.heap.objs.size)->∀ b∈fp,jg (X.blk pins scope (dZ X.env scope.names) G2.objs.size N' fp s2 H2) pl H' b:=fun hn hpl b hb=>by
  refine⟨hn b hb,fun z=>?_,fun z=>?_,.inl hb,fun x c e=>(f2 b hb).2.2.2.2.1 x c (fV (iH I2.ok hsc B) e),fun p hp=>?_⟩
  . have z:b=G2.objs.size:=z
    have:=hlt b hb;rw[z,hC]at this;exact absurd (Nat.lt_of_succ_lt this) (Nat.lt_irrefl _)
  . rcases List.mem_cons.mp (I2.stkSub b z)with e|e
    . exact(f2 b hb).2.1 e
    . exact(f2 b hb).2.2.1 e
  . rcases List.mem_append.mp hp with hp|hp
    . exact(f2 b hb).2.2.2.2.2 p hp
    . rw[hpl p hp]
      exact Nat.ne_of_gt (hlt b hb)
 have hpl1:∀(o:Obj),∀ p∈[(s2.heap.objs.size,o)],p.1=s2.heap.objs.size:=fun o p hp=>by
  rw[List.mem_singleton.mp hp]
 have loop:codeAny (model X.prog X.w) X.A (.compLoop (.ListComp elt [⟨tg,iter,ifs,0⟩] scope pos) 0 (.ref it) (.ref s2.heap.objs.size) (compEnvC scope (dZ X.env scope.names) G2.objs.size X.env))
   (compPost (model X.prog X.w) X.A X.xe use QQ (.ref s2.heap.objs.size) G2.objs.size) { s2 with heap:=h₁,toks:=s2.toks+([]:List (Str×Value)).length }:=by
  refine CW (fun n s'=>∃ i ys H' its,Inv (X.blk pins scope (dZ X.env scope.names) G2.objs.size N' fp s2 H2) [(s2.heap.objs.size,aL its)] (cR ix σ) H' s'/\Vals ys its/\tn i s'.heap/\(∀ b∈fp,H' b=none)/\W i n ys H') ?_ m0
   ⟨0,[],H2,[],I1,.nil,st1,fun b hb=>(f2 b hb).1,w0⟩
  rintro n s3 ⟨i,ys,H3,its,I3,rv,st3,fr3,w3⟩;obtain⟨hl,tr⟩:=turn i n ys H3 w3;rcases tr with⟨stop,q⟩|⟨go,N,hN,step⟩
  . refine thn (T.done (X.blk pins scope (dZ X.env scope.names) G2.objs.size N' fp s2 H2) rfl rfl rfl hc i _ s3 _ H3 _ I3 (fpk fr3 (hpl1 _)) st3 stop) fun r s4 ⟨hr,I4⟩=>?_
    subst hr;have I5:=CZ I2 f2 (qnr _) hCle I4 rv hl;obtain⟨m,hm,_⟩:=I4.loc;have hD4:=(I4.pin (s2.heap.objs.size,aL its) (qar _ qms)).2.1;refine fin _ _ s4 _ m I5 (q _ hD4) hm ?_;have hCn:H3 G2.objs.size=none:=I4.free;refine I2.fpOk hCle ?_;rw[aF (Ne.symm hDC)];exact hCn
  . refine thn (T.item (X.blk pins scope (dZ X.env scope.names) G2.objs.size N' fp s2 H2) rfl rfl rfl hc i _ s3 _ H3 _ I3 (fpk fr3 (hpl1 _)) st3 go) fun r s4 ⟨u,hr,h4⟩=>?_
    subst hr;refine thn h4 fun _ s5 ⟨x,H5,I5,r5,y5,st5,fr5⟩=>?_
    have I5':=I5.pinned (fpk fr5 (hpl1 _)) (T.obj _ _ st5);refine thn (hg _ _ _ _ _ _ _ s5 _ H5 x u _ I5' r5 (step x H5 y5)) fun _ s6 ⟨σ6,H6,I6,ex6,q6⟩=>?_
    refine thn (ht _ _ _ _ _ _ _ s6 σ6 H6 _ I6 q6) fun ok s7 ⟨H7,I7,q7⟩=>?_
    have back:∀{s8:Shared}{H8:Hp}{its':List Value}{ys':List V},Inv (X.blk pins scope (dZ X.env scope.names) G2.objs.size N' fp s2 H2) ([(s2.heap.objs.size,aL its')]++j9 fp s5.heap) σ6 H8 s8->Vals ys' its'->N ys' H8 ->
      ∃ m,m<n/\∃ i ys H' its,Inv (X.blk pins scope (dZ X.env scope.names) G2.objs.size N' fp s2 H2) [(s2.heap.objs.size,aL its)] (cR ix σ) H' s8/\Vals ys its/\tn i s8.heap/\(∀ b∈fp,H' b=none)/\W i m ys H':=fun {s8 H8 its' ys'} I8 rv8 n8=>by
     obtain⟨m',hm,w8⟩:=hN ys' H8 n8;refine⟨m',hm,i+1,ys',H8,its',(I8.weak ex6.length fun j v e=>ex6.get j v e).unpinned,rv8,T.keep _ _ _ st5 fun b hb o e=>(I8.pin (b,o) (qar _ (qar _ (jQ hb e)))).1,fun b hb=>?_,w8⟩;obtain⟨o,e,d⟩:=T.obj _ _ st5 b hb;exact(I8.pin (b,o) (qar _ (qar _ (jQ hb e)))).2.1
    cases ok with
    | false =>
     rw[qnZ qbf]at q7 ⊢;exact back I7 rv q7
    | true =>
     rw[qp rfl]at q7 ⊢;refine thn (he _ _ _ _ _ _ _ s7 σ6 H7 _ I7 q7) fun yv s8 ⟨y,H8,I8,r8,q8⟩=>?_
     have pD:=I8.pin (s2.heap.objs.size,aL its) (qar _ (qal _ qms));refine append_at (hsz:=by show its.toArray.size<=sizeLine;rw[List.size_toArray,<- rv.length];exact hl) pD.1 fun h9 hs9 hD9=>?_
     have e9:h9.get? s2.heap.objs.size=some (aL (its++[yv])):=by
      rw[hD9];show some ({ cls:=.type "list",data:=.seq (its.toArray.push yv) (its.length+1) }:Obj)=some { cls:=.type "list",data:=.seq (its++[yv]).toArray (its++[yv]).length };rw[List.length_append,List.length_singleton,List.push_toArray]
     have I8':Inv (X.blk pins scope (dZ X.env scope.names) G2.objs.size N' fp s2 H2) (j9 fp s5.heap) σ6 H8 s8:=I8.pins_of fun p hp=>I8.pin p (qar _ (qar _ hp))
     have hpn:∀ p∈(X.blk pins scope (dZ X.env scope.names) G2.objs.size N' fp s2 H2).pn++j9 fp s5.heap,p.1≠s2.heap.objs.size:=fun p hp=>by
      rcases List.mem_append.mp hp with hp|hp
      . exact Nat.ne_of_lt (Heap.lt_size (I2.pin p hp).1)
      . exact Nat.ne_of_lt (hlt _ (uv hp).1)
     have I9:=I8'.turned (t':=s8.toks) (it:=s2.heap.objs.size) (fun b o hb e=>hs9.extBut b o hb e) pD.2.1 hDC (.inr (qnr _)) (fun x c e z=>by
      subst z;obtain⟨v,o,z1,z2⟩:=I8.cell x _ e;rw[pD.1]at z1;cases z1
      cases z2) hpn
     refine back (its':=its++[yv]) (ys':=ys++[y]) (I9.pins_of fun p hp=>?_) (rv.append (.cons r8 .nil)) q8;rcases List.mem_append.mp hp with hp|hp
     . rw[List.mem_singleton.mp hp]
       exact⟨e9,pD.2.1,pD.2.2.1,pD.2.2.2.1,fun v e=>by cases e⟩
     . exact I9.pin p (qar _ hp)
 exact codeAny_compStart_list loop (T.self X.A 0 _ _ _ st1 loop)
theorem cj(hc:X.calm=true)(N':List Str)(ix:List (Option Nat))(hi:PI X tg iter wi)(hB:vJ X.env.scope X.N scope N' ix=true)
  (hg:∀ pins cl C fp s H,PG (X.blk pins scope cl C N' fp s H) tg g) (ht:∀ pins cl C fp s H,PTs (X.blk pins scope cl C N' fp s H) ifs tt) (he:∀ pins cl C fp s H,PE (X.blk pins scope cl C N' fp s H) elt te)
  (hs:∀ x,foldedSetIterable iter X.env x=pure x:=by intro _;rfl):PE X (.ListComp elt [⟨tg,iter,ifs,0⟩] scope pos) (Av wi ix g tt te):=by
 intro pins s σ H Q I h;rw[eval_ListComp];refine yz (use:=none) hc hi rfl rfl (BlkOk.of hB) hg ht he hs I h fun D C s4 H4 m I4 q4 hm hf=>?_
 refine⟨m,hm,fun h' hs'=>?_⟩;exact⟨.ref D,H4,I4.turned (t':=s4.toks) (fun b o hb e=>hs'.extBut b o hb e) hf.1 hf.2.1 hf.2.2.2.1 hf.2.2.2.2.1 hf.2.2.2.2.2,rfl,q4⟩
theorem gH{i:Nat}{x:Str}{pos' spos:Pos}(hc:X.calm=true)(N':List Str)(ix:List (Option Nat))(hNd:X.N.Nodup)(hxi:X.N[i]? = some x)(hx:X.env.scope.names.lookup x=some .local)(hi:PI X tg iter wi)(hB:vJ X.env.scope X.N scope N' ix=true)
  (hg:∀ pins cl C fp s H,PG (X.blk pins scope cl C N' fp s H) tg g) (ht:∀ pins cl C fp s H,PTs (X.blk pins scope cl C N' fp s H) ifs tt) (he:∀ pins cl C fp s H,PE (X.blk pins scope cl C N' fp s H) elt te)
  (hsw:swapsWith (.ListComp elt [⟨tg,iter,ifs,0⟩] scope pos) (some (.Name x pos')) spos.line X.env=pure true:=by rfl)
  (hs:∀ x,foldedSetIterable iter X.env x=pure x:=by intro _;rfl):PS X (.Assign [.Name x pos'] (.ListComp elt [⟨tg,iter,ifs,0⟩] scope pos) spos) (Ac (Av wi ix g tt te) (lw i)):=by
 intro pins s σ H D I h;rw[exec_Assign_Name_used _ _ _ _ hsw];refine wpAny_bind (wpAny_standAt (wpAny_bind ?_));show wpAny _ X.A (do let _ <- comprehension (.ListComp elt [⟨tg,iter,ifs,0⟩] scope pos) scope X.env _ (newList []) false (eval iter X.env) (some (assign (.Name x pos') X.env))) _ _ s;refine wpAny_bind (wpAny_mono (yz (use:=some (assign (.Name x pos') X.env)) (QQ:=fun _ s'=>SP X pins D .next s') hc hi rfl rfl (BlkOk.of hB) hg ht he hs I h fun Da C s4 H4 m I4 q4 hm hf=>?_) (fun _ s' hq=>wpAny_pure (wpAny_pure hq)) fun _ _ e=>e);show wpAny _ X.A (assign (.Name x pos') X.env (.ref Da)) _ _ _;refine wpAny_assign_Name (ut (v:=.ref Da) I4 hNd hxi (.inl hx) rfl (fun s5 I5 hsb=>?_) (.inr hx));obtain⟨a,hsb,ha⟩:=hsb
 have hCa:C≠a:=by
  rcases ha with z|z
  . rw[z];exact hf.2.1
  . exact fun e=>hf.2.2.2.2.1 x a z e.symm
 refine⟨m,hm.sameBut hsb hCa,fun h' hs'=>?_⟩;exact⟨_,H4,I5.turned (t':=s5.toks) (fun b o hb e=>hs'.extBut b o hb e) hf.1 hf.2.1 hf.2.2.2.1 hf.2.2.2.2.1 hf.2.2.2.2.2,q4⟩
end
end L2
namespace L2
open PySem PySem.Spec PyProof.Rows
theorem Gj{α:Type}(xs:List α)(i k:Nat):(List.range k).filterMap (fun m=>xs[i+m]?)=(xs.drop i).take k:=by
 induction k with
 |zero=>simp
 | succ k ih =>
  rw[List.range_succ,List.filterMap_append,ih,qta,List.getElem?_drop];cases h:xs[i+k]? with
  |none=>simp[h]
  |some v=>simp[h]
theorem vK(n:Nat)(i:Int)(d:Nat):max 0 (min (if i<0 then i+(n:Int)else i) (n:Int))=((HT.sIx n d (some i):Nat):Int):=by
 simp only[HT.sIx]
 by_cases h:i<0
 . simp only[h,if_true];omega
 . simp only[h,if_false];omega
theorem ww(a b:Nat):List.map (fun k:Nat=>((a:Int)+1 * (k:Int)).toNat) (List.range (if (a:Int)<(b:Int)then((b:Int) - a+1 - 1) / 1 else 0).toNat)=(List.range (b - a)).map fun k=>a+k:=by
 have e:(if (a:Int)<(b:Int)then((b:Int) - a+1 - 1) / 1 else 0).toNat=b - a:=by
  split <;> omega
 rw[e];apply List.map_congr_left;intro k _;omega
theorem picked_eq(n:Nat)(lo hi:Option Int):Builtin.Str.strSliceIndices lo hi 1 n=(List.range (HT.sIx n n hi - HT.sIx n 0 lo)).map fun k=>HT.sIx n 0 lo+k:=by
 unfold Builtin.Str.strSliceIndices sliceRange;simp only[show((1:Int) > 0)=True by simp,if_true];rw[<- ww];cases lo with
 | none =>
  cases hi with
  |none=>rfl
  |some j=>simp only[vK n j n];rfl
 | some i =>
  cases hi with
  |none=>simp only[vK n i 0];rfl
  |some j=>simp only[vK n i 0,vK n j n]
def dC(x:Str)(lo hi:Option Int):Str:=⟨((x.cps.toList.drop (HT.sIx x.length 0 lo)).take (HT.sIx x.length x.length hi - HT.sIx x.length 0 lo)).toArray⟩
theorem fD(x:Str)(lo hi:Option Int):(dC x lo hi).cps.toList=(x.cps.toList.drop (HT.sIx x.length 0 lo)).take (HT.sIx x.length x.length hi - HT.sIx x.length 0 lo):=by
 simp[dC]
theorem yC(x:Str)(lo hi:Option Int):(dC x lo hi).length <= x.length:=by
 show(dC x lo hi).cps.size<=x.cps.size;rw[<- Array.length_toList,fD,List.length_take,List.length_drop,Array.length_toList];omega
def Pa:V->Option Int->Option Int->Hp->VK->Prop:=fun x lo hi H Q=>∃ z,x = .str z/\z.length<=sizeLine/\Q (.str (dC z lo hi)) H
section
variable{X:Cx}
theorem wy:SlR X Pa:=by
 intro pins s σ H x v vl vu lo hi sl Q I r hs pl pu h;obtain⟨z,rfl,hz,q⟩:=h;obtain⟨t,rfl⟩:=r
 obtain⟨l,hl,el⟩:∃ l:Option (Int×Tok),vl=partValue l/\l.map (·.1)=lo:=by
  cases pl with
  |none=>exact⟨none,rfl,rfl⟩
  |int i t=>exact⟨some (i,t),rfl,rfl⟩
 obtain⟨u,hu,eu⟩:∃ u:Option (Int×Tok),vu=partValue u/\u.map (·.1)=hi:=by
  cases pu with
  |none=>exact⟨none,rfl,rfl⟩
  |int i t=>exact⟨some (i,t),rfl,rfl⟩
 subst hl hu;refine⟨"str",_,F.slot_str_getitem.lookup,typeIs_str s z t,wpAny_getItem_str_slice (l:=l) (u:=u) (st:=none) hs rfl ?_⟩
 have ep:slicePicked z l u none=(List.range (HT.sIx z.length z.length hi - HT.sIx z.length 0 lo)).map fun k=>HT.sIx z.length 0 lo+k:=by
  unfold slicePicked;rw[el,eu];exact picked_eq z.length lo hi
 have ec:(slicePicked z l u none).filterMap (fun i=>z.cps[i]?)=(dC z lo hi).cps.toList:=by
  rw[ep,List.filterMap_map,fD]
  have e2:((fun i=>z.cps[i]?) ∘ fun k=>HT.sIx z.length 0 lo+k)=fun m=>z.cps.toList[HT.sIx z.length 0 lo+m]?:=by
   funext m
   simp
  rw[e2];exact Gj _ _ _
 unfold sliceMade
 split
 . rename_i hw
   have hw':(slicePicked z l u none).length=z.length:=by simpa using hw
   rw[ep,qlm,List.length_range]at hw'
   have e:dC z lo hi=z:=by
    have b1:HT.sIx z.length z.length hi<=z.length:=HT.sIx_le _ _ (qnr _) _
    have e1:(dC z lo hi).cps.toList=z.cps.toList:=by
     rw[fD];have lz:z.cps.toList.length=z.length:=Array.length_toList
     by_cases h0:z.length=0
     . have:z.cps.toList=[]:=List.eq_nil_of_length_eq_zero (by rw[lz,h0])
       rw[this];simp
     . have a0:HT.sIx z.length 0 lo=0:=by omega
       have b0:HT.sIx z.length z.length hi=z.length:=by omega
       rw[a0,b0,List.drop_zero,Nat.sub_zero,<- lz,List.take_length]
    have e2:(dC z lo hi).cps=z.cps:=Array.toList_inj.mp e1;exact congrArg Str.mk e2
   rw[e]at q;exact⟨.str z,H,I,⟨t,rfl⟩,q⟩
 . have e:(⟨((slicePicked z l u none).filterMap (fun i=>z.cps[i]?)).toArray⟩:Str)=dC z lo hi:=by
    rw[ec]
   rw[e];exact⟨qnt (yC z lo hi) hz,.str (dC z lo hi),H,I.tok _,⟨_,rfl⟩,q⟩
theorem lD:∀{ys:List Str}{us:List Value},Vals (ys.map V.str) us->StrsAre us ys
 |[],_,h=>by cases h;exact .nil
 | y::ys,_,h=>by
  cases h with
  | cons r t =>
   obtain⟨t',rfl⟩:=r;exact .cons _ _ (lD t)
theorem uG:∀{us:List Value}{ys:List Str},StrsAre us ys->Vals (ys.map V.str) us
 |_,_,.nil=>.nil
 |_,_,.cons x t h=>.cons ⟨t,rfl⟩ (uG h)
theorem Jk:∀{l₁:List (Key×V)}{l₂:List (Key×Value)},KV l₁ l₂->∀(j:Nat)(k:Key)(x:Value),l₂[j]? = some (k,x)->∃ v,l₁[j]? = some (k,v)
 |_,_,.nil,j,k,x,e=>by simp at e
 | p::_,_,.cons hr _,0,k,x,e=>by
  rw[List.getElem?_cons_zero]at e;have e:=qsi e;subst e;have h1:p.1=k:=hr.1;exact⟨p.2,by rw[List.getElem?_cons_zero,<- h1]⟩
 | _::_,_,.cons _ t,j+1,k,x,e=>by
  rw[List.getElem?_cons_succ]at e;obtain⟨v,hv⟩:=Jk t j k x e;exact⟨v,by rw[List.getElem?_cons_succ];exact hv⟩
def Lx:List V->Hp->VK->Prop:=fun xs H Q=>∃(p:Addr)(kvs:List (Key×V))(ys:List Str),xs=[.ref p]/\H p=some (.dK kvs)/\kvs.map (·.1)=ys.map Sum.inr/\ys.length<64 /\
 ∀ l ys',H l=none->ys'.Perm ys->sortedS ys'=true->Q (.ref l) (upd H l (.lst (ys'.map V.str)))
theorem wz(hc:X.calm=true):eG X (.builtin "sorted") Lx:=by
 intro pins s σ H xs us Q I r h;obtain⟨p,kvs,ys,rfl,hp,hk,hl,q⟩:=h;obtain⟨u,rfl,ru⟩:=vals1 r;cases ru;obtain⟨hz,lo,vs,rk,hD⟩:=I.hok p _ hp
 have hlk:kvs.length=ys.length:=by
  have:=congrArg List.length hk
  rwa [qlm,qlm]at this
 have hlv:kvs.length=vs.length:=Paired.length rk;obtain⟨ep,hat⟩:=hD.dictAt;have hh:X.A.handled=none:=I.ok.hd hc;refine Calls.call_function_entry kind_sorted plain_sorted entry_sorted (args_sorted1 _) ?_;unfold Builtin.«sorted»;refine wpAny_bind (m:=checkCount "sorted" 1 1 _) (wpAny_pure ?_);refine wpAny_bind (W.kdu_collect (A:=X.A.in1) (W.kdl_dict (knd:=bM X.prog X.w) (kvs:=vs) (ep:=ep) lo) hh hat (qnt (by omega:vs.length<=64) (by decide)) fun h' tk acc hkp hacc=>?_);have hla:acc.toList.length=vs.length:=by rw[Array.length_toList];exact hacc.1
 have keys:∀(j:Nat)(kv:Key×V),kvs[j]? = some kv->∃ y,ys[j]? = some y/\kv.1=Sum.inr y:=fun j kv e=>by
  have e1:(kvs.map (·.1))[j]? = some kv.1:=by rw[qgm,e];rfl
  rw[hk,qgm]at e1;cases e2:ys[j]? with
  |none=>rw[e2]at e1;cases e1
  |some y=>rw[e2]at e1;exact⟨y,rfl,(qsi e1).symm⟩
 have hstrs:Vals (ys.map V.str) acc.toList:=by
  have gen:∀(us:List Value)(zs:List Str),us.length=zs.length->(∀(j:Nat) u,us[j]? = some u->∃ y t,zs[j]? = some y/\u=Value.str y t)->Vals (zs.map V.str) us:=by
   intro us
   induction us with
   | nil=>intro zs hl _;cases zs with
    |nil=>exact .nil
    |cons _ _=>simp at hl
   | cons u us ih =>
    intro zs hl h;cases zs with
    |nil=>simp at hl
    | cons z zs =>
     obtain⟨y,t,e1,e2⟩:=h 0 u rfl;rw[List.getElem?_cons_zero]at e1;cases e1;subst e2;exact .cons ⟨t,rfl⟩ (ih zs (by simpa using hl) fun j u' e=>h (j+1) u' e)
  refine gen _ _ (by omega) fun j u e=>?_
  obtain⟨k,x,e1,e2⟩:=hacc.2 j u (by rw[<- Array.getElem?_toList];exact e);obtain⟨v,e3⟩:=Jk rk j k x e1;obtain⟨y,e4,e5⟩:=keys j _ e3;have e5:k=Sum.inr y:=e5;subst e5;have e2:mR (Sum.inr y) u=true:=e2;rcases cO e2 with⟨i,t,z1,_⟩|⟨y',t,z1,z2⟩
  . cases z1
  . cases z1
    exact⟨y,t,e4,z2⟩
 have hS:=lD hstrs;refine wpAny_bind (wpAny_newList ?_ (by rw[hla];exact qnt (by omega:vs.length<=64) (by decide)));have hoL:(h'.push { cls:=.type "list",data:=.seq acc.toList.toArray }).get? h'.objs.size=some (seqObj "list" acc.toList.toArray 0):=Heap.get?_push_size _ rfl;refine wpAny_bind (wpAny_holding (wpAny_call_entry slot_list_sort ⟨_,hoL,rfl⟩ entry_list_sort (list_sort_treeK strKind_oneLt hoL hS.keysOf (fun v₁ v₂ rest e=>keyKind_strs (by rw[<- e];exact hS)) (by omega) fun st' a1 a2=>⟨_,rfl,?_⟩) (args_list_sort _)));obtain⟨ys',h1,h2,h3⟩:=sorted_out_str hS a1 a2;refine wpAny_pure ⟨_,rfl,?_⟩;obtain⟨e,he⟩:=sortedHeap_at (out:=(arrOf st').map (·.2)) hoL;have I':Inv X pins σ H { s with heap:=h',toks:=tk }:=I.kept (t':=tk) hkp
 have old:∀ b o,h'.get? b=some o->(sortedHeap (h'.push { cls:=.type "list",data:=.seq acc.toList.toArray }) h'.objs.size acc.toList ((arrOf st').map (·.2))).get? b=some o:=fun b o eb'=>by
  have hlt:=Heap.lt_size eb';rw[sortedHeap_old (Nat.ne_of_lt hlt) (by rw[size_push'];exact Nat.lt_succ_of_lt hlt)];exact Heap.get?_push_of_some _ eb'
 refine⟨.ref h'.objs.size,_,I'.laid (o:=.lst (ys'.map V.str)) (t':=tk) old (qnr _) ⟨?_,((arrOf st').map (·.2)).toList,e,uG h1,?_⟩,rfl,q _ ys' (I'.hok.fresh (qnr _)) h2 h3⟩
 . rw[qlm,h2.length_eq]
   exact qnt (Nat.le_of_lt hl) (by decide)
 . rw[he]
theorem yD:∀{bs:List Bool}{us:List Value},Vals (bs.map V.bl) us->us=bs.map Value.bool
 |[],_,h=>by cases h;rfl
 | b::bs,_,h=>by
  cases h with
  | cons r t =>
   have r:_=Value.bool b:=r;rw[List.map_cons,r,yD t]
theorem range_all(bs:List Bool):(List.range bs.length).all (fun i=>bs.getD i false)=bs.all id:=by
 induction bs with
 |nil=>rfl
 | cons b r ih =>
  rw[List.length_cons,List.range_succ_eq_map,List.all_cons,List.all_cons,List.all_map,<- ih]
  rfl
def Pb(K:W.Frag):List V->Hp->VK->Prop:=fun xs H Q=>∃(p:Addr)(bs:List Bool),xs=[.ref p]/\SqL K H p (bs.map V.bl)/\Q (.bl (bs.all id)) H
theorem Gk{prog:Program}{w:World}{A:Around}(bs:List Bool):TruthOf prog w A (fun i v=>(bs.map Value.bool).toArray[i]? = some v) (fun i=>bs.getD i false):=by
 intro i v s Q E hP hQ;have hP:(bs.map Value.bool)[i]? = some v:=by simpa using hP
 rw[qgm]at hP;cases e:bs[i]? with
 |none=>rw[e]at hP;cases hP
 | some b =>
  rw[e]at hP;have hP:=qsi hP;subst hP;have:bs.getD i false=b:=by simp[List.getD,e]
  have hQ:Q (bs.getD i false) s:=hQ;rw[this]at hQ;exact wpAny_truthy_bool hQ
theorem lE(hc:X.calm=true):eG X (.builtin "all") (Pb X.K):=by
 intro pins s σ H xs us Q I r h;obtain⟨p,bs,rfl,hp,q⟩:=h;obtain⟨u,rfl,ru⟩:=vals1 r;cases ru;obtain⟨its,rv,pl,hz⟩:=I.list hp;have ei:=yD rv;subst ei
 have hlt:p<s.heap.objs.size:=by
  obtain⟨_,_,e,_⟩:=pl;exact Heap.lt_size e
 have hh:X.A.handled=none:=I.ok.hd hc;refine call_all_walk (wpAny_pyIter_list pl.isList ⟨s.heap.objs.size,_,_,_,_,_,fun i=>bs.getD i false,rfl,Walks.list (A:=X.A.in1) hh s.heap.objs.size p (Nat.ne_of_lt hlt) (bs.map Value.bool).toArray,⟨⟨_,Heap.get?_push_size _ rfl,rfl,rfl⟩,pl.isList.push _⟩,Gk bs,fun h' tk hk=>?_⟩)
 have e:(List.range (bs.map Value.bool).toArray.size).all (fun i=>bs.getD i false)=bs.all id:=by
  rw[List.size_toArray,qlm];exact range_all bs
 rw[e];refine⟨.bl (bs.all id),H,I.kept (t':=tk) fun b o eb=>hk b o (fun hm=>?_) (Heap.get?_push_of_some _ eb),rfl,q⟩;exact absurd (Heap.lt_size eb) (by rw[List.mem_singleton.mp hm];exact Nat.lt_irrefl _)
def Pg:V->Option Value
 | .ty n=>some (.type n)
 | .ref a=>some (.ref a)
 |_=>none
def Ph(K:W.Frag):List V->Hp->VK->Prop:=fun xs H Q=>∃ x c t cv b,xs=[x,c]/\Pg c=some cv/\TyOf K H x t/\W.kitOne K t cv=some b/\Q (.bl b) H
theorem fW:eG X (.builtin "isinstance") (Ph X.K):=by
 intro pins s σ H xs us Q I r h;obtain⟨x,c,t,cv,b,rfl,hc,ty,hk,q⟩:=h;obtain⟨u,w',rfl,ru,rw'⟩:=vals2 r
 have e:w'=cv:=by
  cases c with
  |ty n=>have rw':w'=Value.type n:=rw';rw[rw'];exact qsi hc
  |ref a=>have rw':w'=Value.ref a:=rw';rw[rw'];exact qsi hc
  |_=>cases hc
 subst e;exact Cy I ru ty hk fun tk=>⟨.bl b,H,I.tok tk,rfl,q⟩
inductive rJoin(K:W.Frag)(x:V)(vs:List V)(H:Hp)(Q:VK):Prop
 |mk (z:Str) (p:Addr) (ys:List Str) (_:x = .str z) (_:vs=[.ref p]) (_:SqL K H p (ys.map V.str)) (_:(ys.map (·.length)).sum+ys.length * z.length<=16777216) (_:Q (.str (Txt.join z ys)) H)
theorem jZ:MtR X "str.join" (rJoin X.K):=by
 intro pins s σ H x xs v us Q I rx r h;obtain⟨z,p,ys,rfl,rfl,hp,hs,q⟩:=h;obtain⟨t,rfl⟩:=rx;obtain⟨u,rfl,ru⟩:=vals1 r;cases ru;obtain⟨its,rv,pl,hz⟩:=I.list hp;exact join_list pl.isList (by simpa using lD rv) hs fun t' k=>⟨.str _,H,I.tok k,⟨t',rfl⟩,q⟩
end
end L2
namespace L2
open PySem PySem.Spec PyProof.Rows
section
variable{ix:List (Option Nat)}{g:TG}{tt:TT}{te:TE}{σ:St}{H:Hp}{Q:VK}{K:W.Frag}
theorem m6{lo:Int}{n:Nat}(Pv:Nat->List V->Hp->Prop)(h0:Pv 0 [] H)(hn:n<=sizeLine)(hl:∀ i ys H,Pv i ys H->ys.length<=i)
  (hs:∀ i ys H,i<n->Pv i ys H->g (.int (lo+i)) (cR ix σ) H fun σ2 H2=>Ext (cR ix σ) σ2/\tt σ2 H2 fun ok H3=>if ok=true then te σ2 H3 fun y H4=>Pv (i+1) (ys++[y]) H4 else Pv (i+1) ys H3)
  (hd:∀ ys H,Pv n ys H->∀ p,H p=none->Q (.ref p) (upd H p (.lst ys))):jE (Itr lo n) ix g tt te σ H Q:=by
 refine⟨fun i m ys H=>m=n - i/\i<=n/\Pv i ys H,⟨n,by simp,qnz _,h0⟩,?_⟩;rintro i m ys H ⟨rfl,hi,p⟩;refine⟨qnt (hl _ _ _ p) (qnt hi hn),?_⟩
 by_cases hlt:i<n
 . refine .inr ⟨hlt,Pv (i+1),fun ys' H' p'=>⟨n - (i+1),by omega,rfl,hlt,p'⟩,fun x H' y=>?_⟩
   obtain⟨e,y⟩:=y;subst e y;exact hs i ys _ hlt p
 . have e:i=n:=by omega
   subst e;exact .inl ⟨qnr _,hd ys H p⟩
theorem gA{a:Addr}{xs:List V}(Pv:Nat->List V->Hp->Prop)(h0:Pv 0 [] H)(hn:xs.length<=sizeLine)(hl:∀ i ys H,Pv i ys H->ys.length<=i)(hx:∀ i ys H,Pv i ys H->SqL K H a xs)
  (hs:∀ i x ys H,xs[i]? = some x->Pv i ys H->g x (cR ix σ) H fun σ2 H2=>Ext (cR ix σ) σ2/\tt σ2 H2 fun ok H3=>if ok=true then te σ2 H3 fun y H4=>Pv (i+1) (ys++[y]) H4 else Pv (i+1) ys H3)
  (hd:∀ ys H,Pv xs.length ys H->∀ p,H p=none->Q (.ref p) (upd H p (.lst ys))):jE (Itl K a) ix g tt te σ H Q:=by
 refine⟨fun i m ys H=>m=xs.length - i/\i<=xs.length/\Pv i ys H,⟨xs.length,by simp,qnz _,h0⟩,?_⟩;rintro i m ys H ⟨rfl,hi,p⟩;have q:=hx i ys H p;refine⟨qnt (hl _ _ _ p) (qnt hi hn),?_⟩
 by_cases hlt:i<xs.length
 . refine .inr ⟨⟨xs,xs[i],q,by simp[hlt]⟩,Pv (i+1),fun ys' H' p'=>⟨xs.length - (i+1),by omega,rfl,hlt,p'⟩,fun x H' y=>?_⟩
   obtain⟨e,y⟩:=y;subst e;exact hs i x ys _ (y xs q) p
 . have e:i=xs.length:=by omega
   subst e;exact .inl ⟨⟨xs,q,qnr _⟩,hd ys H p⟩
theorem c7{lo:Int}{n:Nat}(f:Nat->V)(hn:n<=sizeLine)
  (hs:∀ i (R:VK),i<n->R (f i) H->Ext (cR ix σ) ((cR ix σ).set 0 (some (.int (lo+i))))/\te ((cR ix σ).set 0 (some (.int (lo+i)))) H R)
  (hd:∀ p,H p=none->Q (.ref p) (upd H p (.lst ((List.range n).map f)))):jE (Itr lo n) ix (lw 0) Ar te σ H Q:=by
 refine m6 (fun i ys H'=>H'=H/\ys=(List.range i).map f) ⟨rfl,rfl⟩ hn (fun i ys H' ⟨_,e⟩=>by rw[e];simp) ?_ (fun ys H' ⟨e1,e2⟩ p hp=>by subst e1 e2;exact hd p hp);rintro i ys H' hi ⟨rfl,rfl⟩;obtain⟨h1,h2⟩:=hs i (fun y H4=>H4=H'/\(List.range i).map f++[y]=(List.range (i+1)).map f) hi ⟨rfl,by rw[List.range_succ,List.map_append];rfl⟩;exact⟨h1,h2⟩
end
theorem qH{α:Type}{xs:List α}{i:Int}{v:α}(h0:0<=i)(h:xs[i.toNat]? = some v):atI xs i=some v:=by
 have e:i=((i.toNat:Nat):Int):=by omega
 rw[e];exact b8 h
theorem Ly(x:Str){v:Int}(h:0<=v):(dC x none (some v)).cps.toList=x.cps.toList.take v.toNat:=by
 rw[fD]
 have e:HT.sIx x.length x.length (some v)=min v.toNat x.length:=by
  show(if v<0 then _ else _)=_;rw[qnZ (by omega)]
 have e0:HT.sIx x.length 0 none=0:=rfl;have lx:x.cps.toList.length=x.length:=Array.length_toList;rw[e,e0,List.drop_zero,Nat.sub_zero];rcases Nat.le_total v.toNat x.length with h1|h1
 . rw[Nat.min_eq_left h1]
 . rw[Nat.min_eq_right h1,<- lx,List.take_length,List.take_of_length_le (by omega)]
end L2
namespace L2
open PySem PySem.Spec PyProof.Rows
section
variable{X:Cx}{K:W.Frag}{tg l:Expr}{tl:TE}{pos:Pos}{es:List Expr}{t:TGs}{n:Nat}
theorem mK(h:X.K=K:=by rfl):IxR X (rIxT K):=h ▸ aK
theorem iI{k:Nat}(hK:X.K=K)(hc:X.calm=true)(h:PGs X es t)
  (hn:(assignEach es X.env).length=n:=by rfl) (hst:(assignEach es X.env).findIdx? (·.1)=none:=by rfl):PG X (.Tuple es k pos) (Lf K n t):=hK ▸ mz hc h hn hst
variable{o e:Expr}{to:TE}{ta:TA}{name:Str}{apos cpos:Pos}{T id:String}{r:V->List V->Hp->VK->Prop}
theorem Dc (hK:X.K=K) (pa:PlainAttrs T) (slot:Slot T name id) (hty:typeOf (.builtin id)=pure (.type "method_descriptor")) (hm:MtR X id r) (ho:PE X o to) (ha:PA X (e::es) ta)
  (hbase:attributeBase o name X.env (eval o X.env)=eval o X.env:=by rfl)
  (hfew:((backTo cpos (starEach (e::es) X.env)).all (fun x=>!x.1) && (backToKw cpos (keywordEach [] X.env)).all (fun x=>x.1.isSome)
   && decide ((e::es).length+([]:List Keyword).length+(if ([]:List Keyword).isEmpty then 0 else 1)<30))=true:=by rfl)
  (hline:(apos.endLine == cpos.line)=true:=by rfl) (hs:starEach (e::es) X.env=(false,eval e X.env):: starEach es X.env:=by rfl) (hplain:(backTo cpos (starEach es X.env)).any (·.1)=false:=by rfl):
  PE X (.Call (.Attribute o name apos) (e::es) [] cpos) (tBM K T r to ta):=hK ▸ bW pa slot hty hm ho ha hbase hfew hline hs hplain
end
end L2
namespace Bt
open PySem
theorem len:bootBuiltins "len"=some (.builtin "len"):=by decide +kernel
theorem max:bootBuiltins "max"=some (.builtin "max"):=by decide +kernel
theorem min:bootBuiltins "min"=some (.builtin "min"):=by decide +kernel
theorem sum:bootBuiltins "sum"=some (.builtin "sum"):=by decide +kernel
theorem sorted:bootBuiltins "sorted"=some (.builtin "sorted"):=by decide +kernel
theorem all:bootBuiltins "all"=some (.builtin "all"):=by decide +kernel
theorem isinstance:bootBuiltins "isinstance"=some (.builtin "isinstance"):=by decide +kernel
theorem int:bootBuiltins "int"=some (.type "int"):=by decide +kernel
theorem str:bootBuiltins "str"=some (.type "str"):=by decide +kernel
theorem bool:bootBuiltins "bool"=some (.type "bool"):=by decide +kernel
theorem list:bootBuiltins "list"=some (.type "list"):=by decide +kernel
theorem tuple:bootBuiltins "tuple"=some (.type "tuple"):=by decide +kernel
theorem enumerate:bootBuiltins "enumerate"=some (.type "enumerate"):=by decide +kernel
end Bt
namespace L2
open PySem PySem.Spec PyProof.Rows
section
variable{X:Cx}{CX:CXT}{k:Nat}{f C:Addr}{fd:FuncData}{ps:List Str}{sp:Sp}{dvs:List V}{ds:List Value}{E:XK}{x m:Str}{p pos apos pos':Pos}{e o:Expr}{es:List Expr}{ta te:TE}{t:TA}{id T:String}{r:List V->Hp->VK->Prop}
theorem pvl (i:Nat) (hN:X.N[i]? = some x:=by kernel_rfl) (hv:X.env.scope.names.lookup x=some .local:=by kernel_rfl) (hd:(x == ("__debug__":Str))=false:=by kernel_rfl) (hcd:(x == ("__classdict__":Str))=false:=by kernel_rfl):
  PE X (.Name x pos) (tVar i):=vW hN (.inl hv) hd hcd
theorem pvc (i:Nat) (hN:X.N[i]? = some x:=by kernel_rfl) (hv:X.env.scope.names.lookup x=some .cell:=by kernel_rfl) (hd:(x == ("__debug__":Str))=false:=by kernel_rfl) (hcd:(x == ("__classdict__":Str))=false:=by kernel_rfl):
  PE X (.Name x pos) (tVar i):=vW hN (.inr (.inl hv)) hd hcd
theorem pgl(i:Nat)(hN:X.N.Nodup)(hi:X.N[i]? = some x:=by kernel_rfl)(hx:X.env.scope.names.lookup x=some .local:=by kernel_rfl):PG X (.Name x pos) (lw i):=tG hN hi (.inl hx) (.inr hx)
theorem psl(i:Nat)(hN:X.N.Nodup)(he:PE X e te)(hi:X.N[i]? = some x:=by kernel_rfl)(hx:X.env.scope.names.lookup x=some .local:=by kernel_rfl)(hs:swapsWith e (some (.Name x pos')) pos.line X.env=pure false:=by rfl):
  PS X (.Assign [.Name x pos'] e pos) (Ac te (lw i)):=iM hN hi (.inl hx) he hs (.inr hx)
theorem psc(i:Nat)(hN:X.N.Nodup)(he:PE X e te)(hi:X.N[i]? = some x:=by kernel_rfl)(hx:X.env.scope.names.lookup x=some .cell:=by kernel_rfl)(hf:X.fn x=true:=by kernel_rfl)(hs:swapsWith e (some (.Name x pos')) pos.line X.env=pure false:=by kernel_rfl):
  PS X (.Assign [.Name x pos'] e pos) (Ac te (lw i)):=iM hN hi (.inr hx) he hs (.inl hf)
theorem pal(i:Nat){op:Operator}{ti:TIp}(hN:X.N.Nodup)(he:PE X e te)(ho:PIp X op ti)(hi:X.N[i]? = some x:=by kernel_rfl)(hx:X.env.scope.names.lookup x=some .local:=by kernel_rfl):
  PS X (.AugAssign (.Name x pos') op e pos) (Lg i te ti):=Cj hN hi (.inl hx) he ho (.inr hx)
theorem aQ(F:FnOk X.prog X.w X.K X.mg X.base CX k f fd ps sp)(hr:Room k X.A)(hm:X.mg x=some (.ref f))(hk:W.keepIn X.K (.ref f)=true)(hb:Binds X.K fd ps [])(hx:fK CX X E)(ha:PA X (e::es) t)
  (hg:X.env.scope.names.lookup x=some .globalImplicit:=by kernel_rfl) (hdb:(x == ("__debug__":Str))=false:=by kernel_rfl) (he:starEach (e::es) X.env=(false,eval e X.env):: starEach es X.env:=by rfl) (hpl:(backTo pos (starEach es X.env)).any (·.1)=false:=by rfl):
  PE X (.Call (.Name x p) (e::es) [] pos) (Jg sp [] E t):=pQ F hr hg hm hk hb .nil hx ha hdb he hpl
theorem aZ (hc:eG X (.builtin id) r) (hm:X.mg x=none) (hv:bootBuiltins x=some (.builtin id)) (ha:PA X (e::es) t) (hg:X.env.scope.names.lookup x=some .globalImplicit:=by kernel_rfl) (hn:(x == ("__name__":Str))=false:=by kernel_rfl) (hdb:(x == ("__debug__":Str))=false:=by kernel_rfl)
  (he:starEach (e::es) X.env=(false,eval e X.env):: starEach es X.env:=by rfl) (hpl:(backTo pos (starEach es X.env)).any (·.1)=false:=by rfl):PE X (.Call (.Name x p) (e::es) [] pos) (tCB r t):=v6 hc hg hm hv ha (by simpa using hn) hdb he hpl
theorem dh (hc:eG X (.type T) r) (hm:X.mg x=none) (hv:bootBuiltins x=some (.type T)) (ha:PA X (e::es) t) (hg:X.env.scope.names.lookup x=some .globalImplicit:=by kernel_rfl) (hn:(x == ("__name__":Str))=false:=by kernel_rfl) (hdb:(x == ("__debug__":Str))=false:=by kernel_rfl)
  (he:starEach (e::es) X.env=(false,eval e X.env):: starEach es X.env:=by rfl) (hpl:(backTo pos (starEach es X.env)).any (·.1)=false:=by rfl):PE X (.Call (.Name x p) (e::es) [] pos) (tCB r t):=uB hc hg hm hv ha (by simpa using hn) hdb he hpl
theorem jR {v:V} {u:Value} (hm:X.mg x=none) (hv:bootBuiltins x=some u) (hr:RelV v u) (hg:X.env.scope.names.lookup x=some .globalImplicit:=by kernel_rfl) (hn:(x == ("__name__":Str))=false:=by kernel_rfl) (hdb:(x == ("__debug__":Str))=false:=by kernel_rfl):
  PE X (.Name x pos) (tC v):=JM hg hm hv hr (by simpa using hn) hdb
theorem fG {v:V} {u:Value} (hm:X.mg x=some u) (hr:RelV v u) (hg:X.env.scope.names.lookup x=some .globalImplicit:=by kernel_rfl) (hdb:(x == ("__debug__":Str))=false:=by kernel_rfl):PE X (.Name x pos) (tC v):=JL hg hm hr hdb
theorem gj {tg a:Expr} (hm:X.mg "range"=none) (ha:PA X [a] t) (hg:X.env.scope.names.lookup ("range":Str)=some .globalImplicit:=by kernel_rfl) (hs:starEach [a] X.env=[(false,eval a X.env)]:=by rfl):PI X tg (.Call (.Name "range" p) [a] [] pos) (Je t):=Cm hg hm ha hs
end
end L2
namespace L2
open PySem PySem.Spec PyProof.Rows
structure Fly(P:Program)(w:World)(outer:List Env)(H H':Hp)(s s':Shared)(a C:Addr):Prop where
 os:s'.os=s.os
 bare:AllBare s'.gens
 un:Un (frs outer) [] H H' s.heap s'.heap
 hok:HOk P w H' s'.heap
 free:H' a=none
 fl:∃(B:Heap)(a0:Value),Heap.FlyingW B outer a (.ref C) a0 s'.heap/\(∀ b o,s.heap.get? b=some o->H b=none->b∉frs outer->B.get? b=some o)/\(∀ b o,s.heap.get? b=some o->b∉frs outer->∃ o',B.get? b=some o')/\∀ b,H' b≠none->∃ o,s'.heap.get? b=some o/\B.get? b=some o
def CX1(P:Program)(w:World):CXT:=fun outer H s E e s'=>∃ a C H',e = .ref a/\Fly P w outer H H' s s' a C/\E (.ref C) none H'
theorem uH{P:Program}{w:World}{H:Hp}{h:Heap}(x:HOk P w H h){b:Addr}(e:H b≠none):∃ o,h.get? b=some o:=by
 cases q:H b with
 |none=>exact absurd q e
 | some u =>
  have z:=x b u q;cases u with
  |lst xs=>obtain⟨_,_,_,_,e⟩:=z;exact⟨_,e⟩
  |tup xs=>obtain⟨_,_,_,o,e,_⟩:=z;exact⟨_,e⟩
  |dK kvs=>obtain⟨_,_,_,_,o,_,_,e,_⟩:=z;exact⟨_,e⟩
  |dT kvs=>obtain⟨_,_,_,_,o,_,_,e,_⟩:=z;exact⟨_,e⟩
  |set S n=>obtain⟨o,_,_,_,e,_⟩:=z;exact⟨_,e⟩
  |ins C dx fs=>obtain⟨_,_,_,e,_⟩:=z;exact⟨_,e⟩
  |own y=>obtain⟨_,e⟩:=z;exact⟨_,e⟩
  |xd fs=>obtain⟨_,⟨_,_,_,e,_⟩,_⟩:=z;exact⟨_,e⟩
  |rng lo hi=>obtain⟨_,_,_,e⟩:=z;exact⟨_,e⟩
  |frz ob v=>obtain⟨e,_⟩:=z;exact⟨_,e⟩
  | tbl ps =>
   have z:h.get? b=some _:=z;exact⟨_,z⟩
  | met f y =>
   have z:h.get? b=some _:=z;exact⟨_,z⟩
  |ext φ=>obtain⟨_,⟨_,e⟩,_⟩:=z;exact⟨_,e⟩
theorem wA{fr:List Addr}{H0 H1 H2:Hp}{h0 h1 h2:Heap}(u:Un fr [] H0 H1 h0 h1)(keep:∀ b o,h1.get? b=some o->H1 b=none->b∉fr->h0.get? b=some o->h2.get? b=some o)
  (slot:∀ b o,h1.get? b=some o->H1 b=none->b∈fr->∃ sl,h2.get? b=some { o with slots:=sl }) (free:∀ b,H1 b=none->(∃ o,h1.get? b=some o)->H2 b=none)
  (there:∀ b o,h0.get? b=some o->∃ o',h2.get? b=some o') (tups:∀ b xs,H1 b=some (.tup xs)->H2 b=some (.tup xs)) (frzs:∀ b o x,H1 b=some (.frz o x)->H2 b=some (.frz o x))
  (tbls:∀ b ps,H1 b=some (.tbl ps)->∃ more,H2 b=some (.tbl (ps++more))):Un fr [] H0 H2 h0 h2 where
 keep:=fun b o e n hb hx=>keep b o (u.keep b o e n hb hx) (u.free b o e n hx) hb e
 slot:=fun b o e n hb hx=>by
  obtain⟨sl,e1⟩:=u.slot b o e n hb hx;obtain⟨sl',e2⟩:=slot b _ e1 (u.free b o e n hx) hb;exact⟨sl',e2⟩
 free:=fun b o e n hx=>by
  obtain⟨o',e1⟩:=u.there b o e hx;exact free b (u.free b o e n hx) ⟨o',e1⟩
 there:=fun b o e hx=>there b o e
 tups:=fun b xs e=>tups b xs (u.tups b xs e)
 frzs:=fun b o x e=>frzs b o x (u.frzs b o x e)
 tbls:=fun b ps e=>by
  obtain⟨m1,e1⟩:=u.tbls b ps e;obtain⟨m2,e2⟩:=tbls b _ e1;exact⟨m1++m2,by rw[e2,Array.append_assoc]⟩
section
variable{P:Program}{w:World}{K:W.Frag}{mg:Str->Option Value}{base:Heap}{N:List Str}{qual:Str}{scope:Scope}{f:Addr}{cd:Value}{A:Around}{outer:List Env}{s:Shared}{H:Hp}{E:XK}
theorem Gm{CX:CXT}{pins:List (Addr×Obj)}{σ:St}{H1:Hp}{s1:Shared}{h':Heap}{e C:Addr}{vs:List Value}{Q:Unit->Shared->Prop}{EE:Value->Shared->Prop}(I:Inv (bV CX P w K mg base N qual scope f cd A outer s H E) pins σ H1 s1)(hx:Heap.MadeExcOf s1.heap h' e (.ref C) vs)
  (hQ:∀ h2,Fly P w outer H H1 s { s1 with heap:=h2 } e C->Q () { s1 with heap:=h2 }):
  wpAny (model P w) (bV CX P w K mg base N qual scope f cd A outer s H E).A (leaving (bV CX P w K mg base N qual scope f cd A outer s H E).env (.ref e)) Q EE { s1 with heap:=h' }:=by
 have fm:∀ b∈frs (bV CX P w K mg base N qual scope f cd A outer s H E).stack,s1.heap.get? b≠none:=fun b hb=>by
  obtain⟨_,o,ho,_⟩:=I.stack.mem hb;rw[ho];exact fun z=>by cases z
 have inB:∀ b o,s1.heap.get? b=some o->b∉frs (bV CX P w K mg base N qual scope f cd A outer s H E).stack -> (W.hideAll s1.heap (frs (bV CX P w K mg base N qual scope f cd A outer s H E).stack)).get? b=some o:=fun b o e hb=>W.hideAll_get _ e hb
 have hl:s1.heap.FunFrames (W.hideAll s1.heap (frs (bV CX P w K mg base N qual scope f cd A outer s H E).stack)) (bV CX P w K mg base N qual scope f cd A outer s H E).stack :=
  W.funFrames_hide I.stack fun env he b hb=>List.mem_filterMap.mpr ⟨env,he,hb⟩
 refine wpAny_leaves_madeW (base:=W.hideAll s1.heap (frs (bV CX P w K mg base N qual scope f cd A outer s H E).stack)) (h:=s1.heap) I.ok.frames rfl (fun b o q=>W.of_hideAll _ q) hl hx fun h2 t fl tup hnt hsm=>hQ h2 ?_
 have keepB:∀ b o,s1.heap.get? b=some o->b∉frs (bV CX P w K mg base N qual scope f cd A outer s H E).stack -> h2.get? b=some o:=fun b o e hb=>fl.1 b o (inB b o e hb)
 have below:∀ b o,s.heap.get? b=some o->b∉frs outer->b∉frs (bV CX P w K mg base N qual scope f cd A outer s H E).stack:=fun b o e hb z=>by
  rcases List.mem_cons.mp (I.stkSub b z)with q|q
  . have h1:=Heap.lt_size e
    rw[q]at h1;exact absurd (Nat.lt_of_lt_of_le h1 I.ok.above) (Nat.lt_irrefl _)
  . exact hb q
 have frm:∀ b∈frs (bV CX P w K mg base N qual scope f cd A outer s H E).stack,∀ o,s1.heap.get? b=some o->∃ sl,h2.get? b=some { o with slots:=sl }:=fun b hb o e=>by
  obtain⟨_,o',ho,hd⟩:=I.stack.mem hb;rw[e]at ho;cases ho;exact hsm b o (hx.keeps b o e) hd
 have sub:∀ b∈frs outer,b∈frs (bV CX P w K mg base N qual scope f cd A outer s H E).stack:=fun b hb=>by
  show b∈frs (_::outer);unfold frs at hb ⊢;obtain⟨env,he,hf⟩:=List.mem_filterMap.mp hb;exact List.mem_filterMap.mpr ⟨env,qmm _ he,hf⟩
 have trk:∀ b,H1 b≠none->∃ o,h2.get? b=some o/\(W.hideAll s1.heap (frs (bV CX P w K mg base N qual scope f cd A outer s H E).stack)).get? b=some o:=fun b hb=>by
  obtain⟨o,ho⟩:=uH I.hok hb;have nb:b∉frs (bV CX P w K mg base N qual scope f cd A outer s H E).stack:=fun z=>hb (I.stkFree b z)
  exact⟨o,keepB b o ho nb,inB b o ho nb⟩
 refine⟨I.os,I.bare,wA I.base (fun b o e _ hb e0=>keepB b o e (below b o e0 hb)) (fun b o e _ hb=>frm b (sub b hb) o e) (fun b n _=>n) (fun b o e=>?_) (fun _ _ q=>q) (fun _ _ _ q=>q) (fun b ps q=>⟨#[],by rw[q];simp⟩),fun b o q=>?_,?_,_,_,fl,fun b o e n hb=>?_,fun b o e hb=>?_,trk⟩
 . obtain⟨o',e1⟩:=I.base.there b o e (by show b∉[];simp)
   by_cases hb:b∈frs (bV CX P w K mg base N qual scope f cd A outer s H E).stack
   . obtain⟨sl,e2⟩:=frm b hb o' e1
     exact⟨_,e2⟩
   . exact⟨o',keepB b o' e1 hb⟩
 . refine(I.hok b o q).stay (fun c u hc e=>?_) (fun _ z=>z) fun _ _ z=>z
   have hc':H1 c≠none:=by
    rcases hc with rfl|hc
    . rw[q];exact fun z=>by cases z
    . rw[hc];exact fun z=>by cases z
   exact keepB c u e fun z=>hc' (I.stkFree c z)
 . cases q:H1 e with
   |none=>rfl
   | some u =>
    obtain⟨o,ho⟩:=uH I.hok (b:=e) (by rw[q];exact fun z=>by cases z);rw[hx.new]at ho;cases ho
 . have e1:=I.base.keep b o e n hb (by show b∉[];simp)
   exact inB b o e1 (below b o e hb)
 . obtain⟨o',e1⟩:=I.base.there b o e (by show b∉[];simp)
   exact⟨o',inB b o' e1 (below b o e hb)⟩
theorem Lz{CX:CXT}{pins:List (Addr×Obj)}{σ:St}{H1 H2:Hp}{s1 s2:Shared}{e C:Addr}{Q:Unit->Shared->Prop}{EE:Value->Shared->Prop}(I:Inv (bV CX P w K mg base N qual scope f cd A outer s H E) pins σ H1 s1)(F:Fly P w (bV CX P w K mg base N qual scope f cd A outer s H E).stack H1 H2 s1 s2 e C)
  (hQ:∀ h2,Fly P w outer H H2 s { s2 with heap:=h2 } e C->Q () { s2 with heap:=h2 }):
  wpAny (model P w) (bV CX P w K mg base N qual scope f cd A outer s H E).A (leaving (bV CX P w K mg base N qual scope f cd A outer s H E).env (.ref e)) Q EE s2:=by
 obtain⟨fos,fbare,fun_,fhok,ffree,B,a0,hfl,hst,hth,htr⟩:=F;refine wpAny_leaves_onW I.ok.frames rfl hfl fun h2 fl hsm=>hQ h2 ?_
 have below:∀ b o,s.heap.get? b=some o->b∉frs outer->b∉frs (bV CX P w K mg base N qual scope f cd A outer s H E).stack:=fun b o e hb z=>by
  rcases List.mem_cons.mp (I.stkSub b z)with q|q
  . have h1:=Heap.lt_size e
    rw[q]at h1;exact absurd (Nat.lt_of_lt_of_le h1 I.ok.above) (Nat.lt_irrefl _)
  . exact hb q
 have sub:∀ b∈frs outer,b∈frs (bV CX P w K mg base N qual scope f cd A outer s H E).stack:=fun b hb=>by
  show b∈frs (_::outer);unfold frs at hb ⊢;obtain⟨env,he,hf⟩:=List.mem_filterMap.mp hb;exact List.mem_filterMap.mpr ⟨env,qmm _ he,hf⟩
 have frm:∀ b∈frs (bV CX P w K mg base N qual scope f cd A outer s H E).stack,∀ o,s1.heap.get? b=some o->∃ sl,h2.get? b=some { o with slots:=sl }:=fun b hb o e=>by
  obtain⟨sl,e1⟩:=fun_.slot b o e (I.stkFree b hb) hb (by simp);obtain⟨_,o',ho,hd⟩:=I.stack.mem hb;rw[e]at ho;cases ho;obtain⟨sl',e2⟩:=hsm b _ e1 hd;exact⟨sl',e2⟩
 have keepB:∀ b o,s1.heap.get? b=some o->H1 b=none->b∉frs (bV CX P w K mg base N qual scope f cd A outer s H E).stack -> h2.get? b=some o:=fun b o e n hb=>fl.1 b o (hst b o e n hb)
 have trk:∀ b,H2 b≠none->∃ o,s2.heap.get? b=some o/\h2.get? b=some o/\B.get? b=some o:=fun b hb=>by
  obtain⟨o,e1,e2⟩:=htr b hb;exact⟨o,e1,fl.1 b o e2,e2⟩
 refine⟨fos.trans I.os,fbare,wA I.base (fun b o e n hb e0=>keepB b o e n (below b o e0 hb)) (fun b o e _ hb=>frm b (sub b hb) o e) (fun b n ⟨o,e⟩=>fun_.free b o e n (by simp)) (fun b o e=>?_) (fun b xs q=>fun_.tups b xs q) (fun b o x q=>fun_.frzs b o x q) (fun b ps q=>fun_.tbls b ps q),fun b o q=>?_,ffree,B,a0,fl,fun b o e n hb=>?_,fun b o e hb=>?_,fun b hb=>?_⟩
 . obtain⟨o',e1⟩:=I.base.there b o e (by show b∉[];simp)
   by_cases hb:b∈frs (bV CX P w K mg base N qual scope f cd A outer s H E).stack
   . obtain⟨sl,e2⟩:=frm b hb o' e1
     exact⟨_,e2⟩
   . obtain⟨o2,e2⟩:=hth b o' e1 hb
     exact⟨o2,fl.1 b o2 e2⟩
 . refine(fhok b o q).stay (fun c u hc e=>?_) (fun _ z=>z) fun _ _ z=>z
   have hc':H2 c≠none:=by
    rcases hc with rfl|hc
    . rw[q];exact fun z=>by cases z
    . rw[hc];exact fun z=>by cases z
   obtain⟨o',e1,e2,_⟩:=trk c hc';have e:s2.heap.get? c=some u:=e;rw[e1]at e;cases e;exact e2
 . have e1:=I.base.keep b o e n hb (by show b∉[];simp)
   exact hst b o e1 (I.base.free b o e n (by show b∉[];simp)) (below b o e hb)
 . obtain⟨o',e1⟩:=I.base.there b o e (by show b∉[];simp)
   exact hth b o' e1 (below b o e hb)
 . obtain⟨o,_,e2,e3⟩:=trk b hb
   exact⟨o,e2,e3⟩
end
end L2
namespace L2
open PySem PySem.Spec PyProof.Rows
def Raises(X:Cx)(E:XK):Prop:=∀(pins:List (Addr×Obj))(σ:St)(H:Hp)(s:Shared)(h':Heap)(e C:Addr)(vs:List Value),Inv X pins σ H s->Heap.MadeExcOf s.heap h' e (.ref C) vs->E (.ref C) none H->X.xe (.ref e) { s with heap:=h' }
section
variable{P:Program}{w:World}{K:W.Frag}{mg:Str->Option Value}{base:Heap}{N:List Str}{qual:Str}{scope:Scope}{f:Addr}{cd:Value}{A:Around}{outer:List Env}{s:Shared}{H:Hp}{E:XK}
theorem eO:Raises (bV (CX1 P w) P w K mg base N qual scope f cd A outer s H E) E:=fun pins σ H1 s1 h' e C vs I hx q=>Gm I hx fun h2 F=>⟨e,C,H1,rfl,F,q⟩
theorem bx:fK (CX1 P w) (bV (CX1 P w) P w K mg base N qual scope f cd A outer s H E) E:=fun pins σ H1 s1 e s2 I ⟨a,C,H2,ea,F,q⟩=>by
 subst ea;exact Lz I F fun h2 F2=>⟨a,C,H2,rfl,F2,q⟩
theorem own1:PassesOwn (model (bV (CX1 P w) P w K mg base N qual scope f cd A outer s H E).prog (bV (CX1 P w) P w K mg base N qual scope f cd A outer s H E).w) (bV (CX1 P w) P w K mg base N qual scope f cd A outer s H E).A (bV (CX1 P w) P w K mg base N qual scope f cd A outer s H E).env (bV (CX1 P w) P w K mg base N qual scope f cd A outer s H E).xe :=
 PassesOwn.leaving
end
theorem aJ{P:Program}{w:World}{X:Cx}:fK (CX1 P w) X E0:=fun _ _ _ _ _ _ _ ⟨_,_,_,_,_,q⟩=>q.elim
section
variable{P:Program}{w:World}{K:W.Frag}{mg:Str->Option Value}{base:Heap}
theorem Fun.ok1{x qual:Str}{st:Stmt}{f:Addr}{fd:FuncData}{N ps:List Str}{k:Nat}{sp:Sp}(F:Fun K x qual st f fd)(S:FnScope N ps (aB st))(len:∀ vs H Q E,sp vs H Q E->vs.length=ps.length)
  (hbody:∀(cdv:Value)(A:Around)(outer:List Env)(s:Shared)(H:Hp)(vs:List V)(Q:VK)(E:XK),Room k (A.deeper (envOfC qual (aB st) s.heap.objs.size f cdv))->sp vs H Q E ->
   ∃ t,PSs (bV (CX1 P w) P w K mg base N qual (aB st) f cdv A outer s H E) (gh st) t/\t { nx:=fun _ H'=>Q .non H',rt:=Q } (start N vs) H):FnOk P w K mg base (CX1 P w) (k+1) f fd ps sp:=by
 obtain⟨oc,od,kV,doc,pm,an,cdv,ct,osl,rfl,lk,hcd⟩:=F.ex;exact Nv lk hcd S len fun A outer s H vs Q E hr hsp=>hbody cdv A outer s H vs Q E hr hsp
theorem Fun.ok2{x qual:Str}{st:Stmt}{f:Addr}{fd:FuncData}{N ps:List Str}{k:Nat}{sp:Sp}(F:Fun K x qual st f fd)(S:FnScope N ps (aB st))(hbody:∀(cdv:Value)(A:Around)(outer:List Env)(s:Shared)(H:Hp)(vs:List V)(Q:VK)(E:XK),Room k (A.deeper (envOfC qual (aB st) s.heap.objs.size f cdv))->sp vs H Q E ->
   ∃ t,PSs (bV (CX1 P w) P w K mg base N qual (aB st) f cdv A outer s H E) (gh st) t/\t { nx:=fun _ H'=>Q .non H',rt:=Q } (start N vs) H) (len:∀ vs H Q E,sp vs H Q E->vs.length=ps.length:=by intro _ _ _ _ h;cases h;subst_vars;rfl):FnOk P w K mg base (CX1 P w) (k+1) f fd ps sp:=F.ok1 S len hbody
end
abbrev bmV:List Value:=[.type "ValueError",.type "Exception",.type "BaseException",.type "object"]
theorem J3{K:W.Frag}{h:Heap}{C:Addr}{bmB:List Value}{newId:String}(X:K.In h)(q:W.excIn K C bmB newId=true):
  ∃ bm N nm qn bs hdct sn sub ab col dd k0 k1 k2 k3 k5 mN,h.get? C=some (excClassObj nm qn C N bs bm hdct sn sub ab col dd k0 k1 k2 k3 k5 newId)/\h.Ns N mN/\mN "__init__"=none/\OwnTail h bmB bm:=by
 unfold W.excIn at q
 split at q
 . rename_i dd cd sl ho
   split at q
   . rename_i C' bm k0 k1 k2 k3 n k5 hm hs
     simp only[Bool.and_eq_true,beq_iff_eq,Bool.not_eq_true']at q;obtain⟨⟨⟨⟨⟨e1,e2⟩,hdel⟩,ht⟩,hok⟩,hni⟩:=q;subst e1 e2;obtain⟨nm,bs,mro,ns,qn,hd,sn,sub,ab,col,del⟩:=cd;dsimp only at hm hdel hok hni;subst hm hdel
     have hsl:sl = #[k0,k1,k2,k3,some (.builtin n),k5]:=by
      obtain⟨l⟩:=sl;simp only at hs;rw[hs]
     subst hsl;exact⟨bm,ns,nm,qn,bs,hd,sn,sub,ab,col,dd,k0,k1,k2,k3,k5,_,X _ _ ho,.of_isNs (W.isNs_of_in X hok),W.nsMap_none_of_in X hok hni,W.tail_of_in X ht⟩
   . cases q
 . cases q
def LC(C:Addr)(E:XK)(t:TA):TS:=fun _ σ H=>t σ H fun vs H1=>vs.length<=sizeLine/\E (.ref C) none H1
section
variable{X:Cx}{E:XK}{C:Addr}{x:Str}{np cpos pos:Pos}{e:Expr}{es:List Expr}{t:TA}
theorem dF (hR:Raises X E) (hc:X.calm=true) (hm:X.mg x=some (.ref C)) (q:W.excIn X.K C bmV "ValueError.__new__"=true) (ha:PA X (e::es) t)
  (hg:X.env.scope.names.lookup x=some .globalImplicit:=by kernel_rfl) (hdb:(x == ("__debug__":Str))=false:=by kernel_rfl)
  (he:starEach (e::es) X.env=(false,eval e X.env):: starEach es X.env:=by rfl) (hpl:(backTo cpos (starEach es X.env)).any (·.1)=false:=by rfl):
  PS X (.Raise (some (.Call (.Name x np) (e::es) [] cpos)) none pos) (LC C E t):=by
 intro pins s σ H D I h;obtain⟨tl,N,nm,qn,bs,hdct,sn,sub,ab,col,dd,k0,k1,k2,k3,k5,mN,hC,hN,hni,T⟩:=J3 I.mod.kin q
 refine wpAny_Raise_call_subT (C:=C) (nm:=nm) (q:=qn) (N:=N) (bs:=bs) (bm:=tl) (hdct:=hdct) (sn:=sn) (sub:=sub) (ab:=ab) (col:=col) (dd:=dd) (k0:=k0) (k1:=k1) (k2:=k2) (k3:=k3) (k5:=k5)
  PySem.F.excBase_ValueError (mN:=mN) (T.hasType PySem.F.excBase_ValueError.hasBase) (I.ok.hd hc) (by rw[he];show(false || (backTo cpos (starEach es X.env)).any (·.1))=false;rw[hpl];rfl) hni (je I hg hm ⟨rfl,?_⟩ hdb)
 have ha':=ha cpos pins s σ H _ I h;rw[he]at ha' ⊢;refine Calls.evalArgs_plain (wpAny_mono ha' (fun us s2 h2=>?_) fun _ _ y=>y);obtain⟨vs,H2,I2,rv,hl,hE⟩:=h2;refine⟨rfl,by rw[<- rv.length];exact hl,I2.bk _ _ hC,hN.keeps I2.bk,T.keeps I2.bk,fun h' e' hx=>hR pins σ H2 s2 h' e' C us I2 hx hE⟩
end
end L2
namespace L2
open PySem PySem.Spec PyProof.Rows
def XP(X:Cx)(pins:List (Addr×Obj))(σ:St)(EX:XK):Value->Shared->Prop:=fun e s'=>∃ H1 s1,Inv X pins σ H1 s1/\CX1 X.prog X.w X.stack H1 s1 EX e s'
abbrev TEX:=St->Hp->VK->XK->Prop
abbrev TSX:=Ends->XK->St->Hp->Prop
def PEX(X:Cx)(e:Expr)(t:TEX):Prop :=
 ∀(pins:List (Addr×Obj))(s:Shared)(σ:St)(H:Hp)(Q:VK)(EX:XK),Inv X pins σ H s->t σ H Q EX->wpAny (model X.prog X.w) X.A (eval e X.env) (EP X pins σ Q) (XP X pins σ EX) s
def PSX(X:Cx)(st:Stmt)(t:TSX):Prop :=
 ∀(pins:List (Addr×Obj))(s:Shared)(σ:St)(H:Hp)(D:Ends)(EX:XK),Inv X pins σ H s->t D EX σ H->wpAny (model X.prog X.w) X.A (exec st X.env) (SP X pins D) (XP X pins σ EX) s
def LK(X:Cx)(st:List Stmt)(t:TSX):Prop :=
 ∀(pins:List (Addr×Obj))(s:Shared)(σ:St)(H:Hp)(D:Ends)(EX:XK),Inv X pins σ H s->t D EX σ H->wpAny (model X.prog X.w) X.A (execs st X.env) (SP X pins D) (XP X pins σ EX) s
def Dd(sp:Sp)(dvs:List V)(t:TA):TEX:=fun σ H Q EX=>t σ H fun vs H1=>sp (vs++dvs) H1 Q EX
section
variable{X:Cx}{k:Nat}{f C:Addr}{fd:FuncData}{ps:List Str}{sp:Sp}{dvs:List V}{ds:List Value}{x m:Str}{p pos apos:Pos}{e o:Expr}{es:List Expr}{ta:TE}{t:TA}
theorem J4{pins:List (Addr×Obj)}{σ:St}{H:Hp}{s:Shared}{Q:VK}{EX:XK}{us:List Value}{vs:List V}(F:FnOk X.prog X.w X.K X.mg X.base (CX1 X.prog X.w) k f fd ps sp)(hr:Room k X.A)(hb:Binds X.K fd ps ds)(hd:Vals dvs ds)
  (I:Inv X pins σ H s) (r:Vals vs us) (h:sp (vs++dvs) H Q EX):wpAny (model X.prog X.w) X.A (call (.ref f) us) (EP X pins σ Q) (XP X pins σ EX) s:=by
 have r2:Vals (vs++dvs) (us++ds):=r.append hd;have hl:(us++ds).length=ps.length:=by rw[<- r2.length];exact F.len _ _ _ _ h
 refine wpAny_call (codeAny_mono (F.run X.A X.stack s H ⟨us,[]⟩ (us++ds) (vs++dvs) Q EX hr I.env0 (hb s us I.kIn hl) r2 h) fun r s' hq=>?_);cases r with
 |error e=>exact⟨H,s,I,hq⟩
 | ok fl =>
  cases fl with
  |ret u=>exact I.after hq
  |next=>exact False.elim hq
  |brk=>exact False.elim hq
  |cont=>exact False.elim hq
theorem Gn(F:FnOk X.prog X.w X.K X.mg X.base (CX1 X.prog X.w) k f fd ps sp)(hr:Room k X.A)(hg:Gl X x)(hm:X.mg x=some (.ref f))(hk:W.keepIn X.K (.ref f)=true)(hb:Binds X.K fd ps ds)(hd:Vals dvs ds)
  (ha:PA X.nox (e::es) t) (hdb:(x == ("__debug__":Str))=false:=by decide) (he:starEach (e::es) X.env=(false,eval e X.env):: starEach es X.env:=by rfl) (hpl:(backTo pos (starEach es X.env)).any (·.1)=false:=by rfl):
  PEX X (.Call (.Name x p) (e::es) [] pos) (Dd sp dvs t):=by
 intro pins s σ H Q EX I h;refine wpAny_Call_Name_kw (je I hg hm ?_ hdb);refine W.callWith_K (h₀:=X.base) I.ok.mod.kin hk (wpAny_mono (ha pos pins s σ H _ (I.wish _) h) (fun us s1 ⟨vs,H1,I1,r,q⟩=>⟨I1.kIn,?_⟩) fun _ _ z=>False.elim z) he hpl;exact J4 F hr hb hd I1.unwish r q
def LQ(te:TEX):TSX:=fun D EX σ H=>te σ H (fun _ H1=>D.nx σ H1) EX
theorem Gp{te:TEX}(he:PEX X e te)(hs:swapsWith e none pos.line X.env=pure false:=by rfl):PSX X (.Expr e pos) (LQ te):=by
 intro pins s σ H D EX I h;exact wpAny_Expr_any (wpAny_mono (he pins s σ H _ EX I h) (fun v s1 ⟨x,H1,I1,r1,q1⟩=>⟨σ,H1,I1,q1⟩) fun _ _ z=>z) I.quiet hs
def NQ(i:Nat)(te:TEX):TSX:=fun D EX σ H=>te σ H (fun v H1=>D.nx (σ.set i (some v)) H1) EX
theorem J5{i:Nat}{te:TEX}{pos':Pos}(hN:X.N.Nodup)(hi:X.N[i]? = some x)(hx:Loc X.env.scope x)(he:PEX X e te)(hs:swapsWith e (some (.Name x pos')) pos.line X.env=pure false:=by rfl)(hf:X.fn x=true\/X.env.scope.names.lookup x=some .local:=by first|exact .inl rfl|exact .inr rfl|assumption):
  PSX X (.Assign [.Name x pos'] e pos) (NQ i te):=by
 intro pins s σ H D EX I h;refine wpAny_Assign_Name (wpAny_mono (he pins s σ H _ EX I h) (fun v s1 ⟨y,H1,I1,r1,q1⟩=>?_) fun _ _ z=>z) hs;exact mV I1 hN hi hx r1 (fun s2 I2=>⟨_,H1,I2,q1⟩) hf
theorem wB{st:Stmt}{t:TSX}(h1:PSX X st t):LK X [st] t:=by
 intro pins s σ H D EX I h;refine wpAny_execs_cons (wpAny_mono (h1 pins s σ H D EX I h) (fun f s1 q=>?_) fun _ _ z=>z);cases f with
 |next=>exact wpAny_execs_nil q
 |ret v=>exact q
 |brk=>exact q
 |cont=>exact q
end
def lV(K:W.Frag)(C:Addr):Option (List Value):=match K.lookup C with
 | some ⟨.type "type",_,.cls cd,sl⟩=>(match cd.mro,sl.toList with
  | .ref C'::bm,[_,_,_,_,some (.builtin _),_]=>if (C' == C && !cd.hasDel)=true then some bm else none
  |_,_=>none)
 |_=>none
theorem wC{K:W.Frag}{h:Heap}{C:Addr}{bm:List Value}(X:K.In h)(q:lV K C=some bm):
  ∃ N nm qn bs hdct sn sub ab col dd k0 k1 k2 k3 k5 newId,h.get? C=some (excClassObj nm qn C N bs bm hdct sn sub ab col dd k0 k1 k2 k3 k5 newId):=by
 unfold lV at q
 split at q
 . rename_i dd cd sl ho
   split at q
   . rename_i C' bm' k0 k1 k2 k3 n k5 hm hs
     split at q
     . rename_i hc
       cases q;simp only[Bool.and_eq_true,beq_iff_eq,Bool.not_eq_true']at hc;obtain⟨e1,hdel⟩:=hc;subst e1;obtain⟨nm,bs,mro,ns,qn,hd,sn,sub,ab,col,del⟩:=cd;dsimp only at hm hdel;subst hm hdel
       have hsl:sl = #[k0,k1,k2,k3,some (.builtin n),k5]:=by
        obtain⟨l⟩:=sl;simp only at hs;rw[hs]
       subst hsl;exact⟨ns,nm,qn,bs,hd,sn,sub,ab,col,dd,k0,k1,k2,k3,k5,n,X _ _ ho⟩
     . cases q
   . cases q
 . cases q
def under(K:W.Frag)(C M:Addr):Bool:=(lV K C).any fun bm=>(Value.ref C::bm).contains (.ref M)
def catches(K:W.Frag)(M:Addr):Bool:=(lV K M).any fun bm=>bm.contains (.type "BaseException")
section
variable{M:Model}{A:Around}{E:Value->Shared->Prop}
variable{nm q nm' q':Str}{C N C' N':Addr}{bs bm bs' bm':List Value}{hdct hdct':Bool}{sn sn':List Str}{sub sub':List Value}{ab ab':Bool}{col col':Option Bool}{dd dd':Option Addr}{k0 k1 k2 k3 k5 j0 j1 j2 j3 j5:Option Value}{newId newId':String}
end
end L2
namespace L2
open PySem PySem.Spec PyProof.Rows
abbrev Cx.caught(X:Cx)(e:Addr):Cx:={ X with A:=X.A.mark (some (.ref e)),calm:=false,xe:=fun _ _=>False }
theorem Cx.Ok.caught{X:Cx}(ok:X.Ok)(e:Addr):(X.caught e).Ok :=
 ⟨ok.mod,ok.kind,ok.glob,ok.blt,ok.above,ok.inj,ok.has,ok.cab,(fun z=>by cases z),ok.frames,ok.stk,ok.exf,ok.bs,ok.bsz,ok.noex,ok.exfs,ok.funs,ok.frf⟩
section
variable{X:Cx}{pins:List (Addr×Obj)}{σ:St}{H:Hp}{s:Shared}
theorem Inv.caught(I:Inv X pins σ H s)(e:Addr):Inv (X.caught e) pins σ H s:=⟨I.ok.caught e,I.os,I.bare,I.base,I.loc,I.cell,I.free,I.freeC,I.pin,I.hok,I.len⟩
theorem Inv.uncaught{e:Addr}(I:Inv (X.caught e) pins σ H s)(ok:X.Ok):Inv X pins σ H s:=⟨ok,I.os,I.bare,I.base,I.loc,I.cell,I.free,I.freeC,I.pin,I.hok,I.len⟩
end
section
variable{X:Cx}{pins:List (Addr×Obj)}{σ:St}{H:Hp}{s:Shared}
theorem Inv.landed{H1 H2:Hp}{s1 s2:Shared}{a C:Addr}{B h6:Heap}{a0:Value}(I:Inv X pins σ H1 s1)(hstk:X.stack=X.env::X.outer)(os:s2.os=s1.os)(bare:AllBare s2.gens)(u:Un (frs X.stack) [] H1 H2 s1.heap s2.heap)(hok:HOk X.prog X.w H2 s2.heap)
  (hst:∀ b o,s1.heap.get? b=some o->H1 b=none->b∉frs X.stack->B.get? b=some o) (hth:∀ b o,s1.heap.get? b=some o->b∉frs X.stack->∃ o',B.get? b=some o') (htr:∀ b,H2 b≠none->∃ o,s2.heap.get? b=some o/\B.get? b=some o)
  (fl:Heap.FlyingW B X.stack a (.ref C) a0 h6) (sm:s2.heap.UpToSlots h6):Inv X pins σ H2 { s2 with heap:=h6 }:=by
 have frm:∀ b∈frs X.stack,∀ o,s1.heap.get? b=some o->∃ sl,h6.get? b=some { o with slots:=sl }:=fun b hb o e=>by
  obtain⟨sl,e1⟩:=u.slot b o e (I.stkFree b hb) hb (by simp);obtain⟨_,o',ho,hd⟩:=I.stack.mem hb;rw[e]at ho;cases ho;obtain⟨sl',e2⟩:=sm b _ e1 hd;exact⟨sl',e2⟩
 refine I.call' (s':={ s2 with heap:=h6 }) (ch:=[]) os ⟨fun b o e n hb _=>fl.1 b o (hst b o e n hb),fun b o e _ hb _=>frm b hb o e,u.free,fun b o e _=>?_,u.tups,u.frzs,u.tbls⟩ (fun b o q=>?_) bare (fun b z=>absurd z (by simp))
 . by_cases hb:b∈frs X.stack
   . obtain⟨sl,e2⟩:=frm b hb o e
     exact⟨_,e2⟩
   . obtain⟨o2,e2⟩:=hth b o e hb
     exact⟨o2,fl.1 b o2 e2⟩
 . refine(hok b o q).stay (fun c v hc e=>?_) (fun _ z=>z) fun _ _ z=>z
   have hc':H2 c≠none:=by
    rcases hc with rfl|hc
    . rw[q];exact fun z=>by cases z
    . rw[hc];exact fun z=>by cases z
   obtain⟨o',e1,e2⟩:=htr c hc';rw[e1]at e;cases e;exact fl.1 c _ e2
end
end L2
namespace L2
open PySem PySem.Spec PyProof.Rows PySem.W
section
open PySem.Builtin PySem.Builtin.ObjectAttr PySem.Builtin.Getset_descriptor
variable{prog:Program}{w:World}{A:Around}{E:Value->Shared->Prop}{s:Shared}{K:W.Frag}{x C:Addr}{R:Result->Shared->Prop}{ox:Obj}
variable (hg:W.findIn K (.ref C) "__getattribute__"=some (some (.builtin "BaseException.__getattribute__"))) (hh:W.findIn K (.ref C) "__getattr__"=some none)
 (ha:W.findIn K (.ref C) "__class__"=some (some (.builtin "object.__class__")))
 (hn:W.specialIn K (.builtin "object.__class__") "__get__"=some (some (.builtin "getset_descriptor.__get__"))) (ht:W.takesIn K (.builtin "object.__class__")=some true)
 (hm:W.mroIn K C (.type "object")=some true) (hB:W.mroIn K C (.type "BaseException")=some true)
include hg hh ha hn ht hm hB
end
structure ExC(K:W.Frag)(C:Addr):Prop where
 hg:W.findIn K (.ref C) "__getattribute__"=some (some (.builtin "BaseException.__getattribute__"))
 hh:W.findIn K (.ref C) "__getattr__"=some none
 ha:W.findIn K (.ref C) "__class__"=some (some (.builtin "object.__class__"))
 hn:W.specialIn K (.builtin "object.__class__") "__get__"=some (some (.builtin "getset_descriptor.__get__"))
 ht:W.takesIn K (.builtin "object.__class__")=some true
 hm:W.mroIn K C (.type "object")=some true
 hB:W.mroIn K C (.type "BaseException")=some true
 hcl:W.hasDictIn K C=true
section
variable{X:Cx}{pins:List (Addr×Obj)}{σ:St}{H:Hp}{s:Shared}{A:Around}{E:Value->Shared->Prop}{Q:Value->Shared->Prop}{c:Value}{b:Bool}
end
end L2
namespace L2
open PySem PySem.Spec PyProof.Rows
section
variable{X:Cx}
def NT(K:W.Frag):List V->Hp->VK->Prop:=fun xs H Q=>∃(p:Addr)(ns:List Int),xs=[.ref p]/\SqL K H p (ns.map V.int)/\0<ns.length/\∀ M,M∈ns->(∀ a∈ns,M<=a)->Q (.int M) H
theorem oH(hc:X.calm=true):eG X (.builtin "min") (NT X.K):=by
 intro pins s σ H xs us Q I r h;obtain⟨p,ns,rfl,hp,hne,q⟩:=h;obtain⟨u,rfl,ru⟩:=vals1 r;cases ru;obtain⟨its,rv,pl,hz⟩:=I.list hp;have hi:=intsAre_of rv;have hh:X.A.handled=none:=I.ok.hd hc;obtain⟨xs,e⟩:=hi.allInts.items
 have hns:ns=xs.toList.map (·.1):=by
  rw[<- hi.numsOf,<- nums_intItems,<- e]
 have hsz:0<xs.size:=by
  have h3:=hne;rw[hns,qlm,Array.length_toList]at h3;exact h3
 have hl:=pl.isList;rw[e]at hl;refine min_intList hh hl hsz fun v h' tk hv hk=>?_
 obtain⟨t,rfl⟩:=intItems_at hv;obtain⟨h1,h2⟩:=argBest_lt (numAt xs) (xs.size - 1);refine⟨.int _,H,I.kept (t':=tk) hk,⟨t,rfl⟩,q _ ?_ fun a ha=>?_⟩
 . rw[hns,numAt_eq];exact getD_mem (by rw[qlm,Array.length_toList];omega)
 . rw[hns]at ha
   obtain⟨j,hj,rfl⟩:=mem_getD ha;rw[qlm,Array.length_toList]at hj;rw[<- numAt_eq];exact h2 j (by omega)
theorem qg(ns:List Int):∀ k,k<=ns.length->preSum (fun i=>ns.getD i 0) k=(ns.take k).sum
 | 0,_=>by simp[preSum]
 | k+1,h=>by
  have h':k<ns.length:=by omega
  rw[preSum,qg ns k (by omega),List.take_succ_eq_append_getElem h',List.sum_append];simp[List.getD,h']
theorem yE{x:V}{xs:List V}{us:List Value}(r:Vals xs us)(f:xs.all eY=true){j:Nat}{u:Value}(e:us[j]? = some u):eqU x u=eqV (xs.getD j .non) x:=by
 induction r generalizing j with
 |nil=>simp at e
 | @cons y v ys vs rv t ih =>
  rw[List.all_cons,Bool.and_eq_true]at f;cases j with
  |zero=>simp at e;subst e;simpa using rK rv f.1
  |succ j=>simpa using ih f.2 (by simpa using e)
theorem De{β : Type}{M:Model}{A:Around}{E:Value->Shared->Prop}{s:Shared}{Q:β->Shared->Prop}(f:Nat->β->Sem (ForInStep β))(n:Nat)(J:Nat->β->Shared->Prop)(b:β)
  (turn:∀ i b s,i<n->J i b s->wpAny M A (f i b) (fun r s'=>match r with | .yield b'=>J (i+1) b' s' | .done b'=>Q b' s') E s) (fin:∀ b s,J n b s->Q b s) (h:J 0 b s):wpAny M A (forIn [:n] b f) Q E s:=by
 rw[Std.Legacy.Range.forIn_eq_forIn_range']
 have key:∀(k i:Nat)(b:β)(s:Shared),i+k=n->J i b s->wpAny M A (forIn (List.range' i k 1) b f) Q E s:=by
  intro k
  induction k with
  | zero => intro i b s e hj;rw[List.range'_zero,List.forIn_nil];obtain rfl:i=n:=by omega
            exact wpAny_pure (fin _ _ hj)
  | succ k ih =>
   intro i b s e hj;rw[List.range'_succ,List.forIn_cons];refine wpAny_bind (wpAny_mono (turn i b s (by omega) hj) (fun r s' hr=>?_) fun _ _ z=>z);cases r with
   |done b'=>exact wpAny_pure hr
   |yield b'=>exact ih (i+1) b' s' (by omega) hr
 have e:(Std.Legacy.Range.size [:n])=n:=by simp[Std.Legacy.Range.size]
 rw[e];exact key n 0 b s (by omega) h
theorem Aw(l:Addr)(items:Array Value)(n:Nat)(dd:Option Addr)(sl:Array (Option Value))(x:Value)(e:Value->Bool)(j:Nat)(hj:j<items.size)
  (hit:e items[j]=true) (hno:∀ m (hm:m<items.size),m<j->e items[m]=false):
  Meets (Builtin.«tuple.index» ⟨[.ref l,x],[]⟩)
   (fun A R s=>s.heap.get? l=some { cls:=.type "tuple",dict:=dd,data:=.seq items n,slots:=sl }/\(∀ y,y∈items->SeqAt.EqAt A.in1 s y x (e y))/\R (.ok (.ret (.int j s.toks))) { s with toks:=s.toks+1 }):=
 .of_wp fun prog w A R s h=>by
  obtain⟨hp,g,d,tk,os⟩:=s;obtain⟨hl,he,h⟩:=h
  wp_walk using wpAny_loadPart' hl
  show wpAny _ _ (forIn [:min items.size items.size] _ _) _ _ _;rw[Nat.min_self];refine De _ _ (fun i b s'=>b.1=none/\i<=j/\s'=⟨hp,g,d,tk,os⟩) _ (fun i b s' hi ⟨hb,hij,hs⟩=>?_) (fun b s' ⟨_,hij,_⟩=>absurd hj (by omega)) ⟨rfl,qnz _,rfl⟩;subst hs;have hi':items[i]? = some items[i]:=Array.getElem?_eq_getElem hi;simp only[hi'];refine wpAny_bind (he _ (Array.getElem_mem hi) prog w _ _ ?_)
  by_cases hij':i=j
  . subst hij'
    rw[hit]
    wp_walk
    exact⟨_,rfl,h⟩
  . rw[hno i hi (by omega)]
    wp_walk
    exact⟨rfl,by omega,rfl⟩
inductive rIndexT(K:W.Frag)(y:V)(vs:List V)(H:Hp)(Q:VK):Prop
 |mk (p:Addr) (xs:List V) (x:V) (j:Nat) (_:y = .ref p) (_:vs=[x]) (_:SqT K H p xs) (_:eY x=true) (_:xs.all eY=true) (_:j<xs.length) (_:eqV (xs.getD j .non) x=true) (_:(∀ m,m<j->eqV (xs.getD m .non) x=false)) (_:Q (.int j) H)
theorem Df:MtR X "tuple.index" (rIndexT X.K):=by
 intro pins s σ H y vs v us Q I ry r h;obtain⟨p,xs,x,j,rfl,rfl,hp,fx,fs,hj,hit,hno,q⟩:=h;cases ry;obtain⟨u,rfl,ru⟩:=vals1 r;obtain⟨its,rv,pl,hz⟩:=I.tuple hp;obtain⟨⟨cls,dd,data,sl⟩,ho,hc,n,hd⟩:=pl;simp only at hc hd;subst hc hd;have hlen:=rv.length
 refine call_meets PySem.F.slot_tuple_index ⟨_,ho,rfl⟩ PySem.F.entry_tuple_index (PySem.F.args_tuple_index_2 _ _)
  (Aw p its.toArray n dd sl u (eqU x) j (by simpa[hlen]using hj) ?_ ?_) ⟨ho,fun y hy=>ik ru fx rv fs y (by simpa using hy),⟨.int j,H,I.tok _,⟨_,rfl⟩,q⟩⟩
 . rw[yE (x:=x) rv fs (j:=j) (by simp)];exact hit
 . intro m hm hlt
   rw[yE (x:=x) rv fs (j:=m) (by simp)];exact hno m hlt
end
end L2
namespace L2
open PySem PySem.Spec PyProof.Rows
theorem Inv.turns{X:Cx}{pins:List (Addr×Obj)}{σ:St}{H:Hp}{s:Shared}{h':Heap}{fp:List Addr}{p:Addr}{o:HO}{t':Nat}(I:Inv X pins σ H s)(hf:∀ b∈fp,jg X pins H b)(k:∀ b u,b∉fp->s.heap.get? b=some u->h'.get? b=some u)
  (hp:s.heap.objs.size<=p) (new:ObjOk X.prog X.w (upd H p o) h' p o):Inv X pins σ (upd H p o) { s with heap:=h',toks:=t' }:=by
 have hn:H p=none:=I.hok.fresh hp;have ne:∀ b u,H b=some u->b≠p:=fun b u e z=>by rw[z,hn]at e;cases e
 have nf:∀ b u,H b=some u->b∉fp:=fun b u e z=>by rw[(hf b z).1]at e;cases e
 have old:∀ b u,s.heap.get? b=some u->b≠p:=fun b u e=>Nat.ne_of_lt (Nat.lt_of_lt_of_le (Heap.lt_size e) hp)
 refine I.step (g':=s.gens) (d':=s.drawn) (ch:=fp) (fun b hb=>?_) (fun b u _ _ hc e _=>k b u hc e) (fun b u _ _ hc e _=>⟨u.slots,k b u hc e⟩) (fun b u _ e n=>by rw[aF (old b u e)];exact n)
  (fun b u hc e=>⟨u,k b u hc e⟩) (fun b xs e=>by rw[aF (ne _ _ e)];exact e) (fun b o' u e=>by rw[aF (ne _ _ e)];exact e) (fun b ps e=>⟨#[],by rw[aF (ne _ _ e),e];simp⟩) (fun m hm=>?_) (fun b u e=>?_) I.bare
 . obtain⟨_,f1,_,f3,f4,f5⟩:=hf b hb
   exact⟨f3,f1,f4,f5⟩
 . obtain⟨ob,es,ep,ho,r⟩:=hm
   exact⟨ob,es,ep,k _ ob (fun z=>(hf _ z).2.1 rfl) ho,r⟩
 . by_cases hb:b=p
   . subst hb
     rw[au]at e;cases e;exact new
   . rw[aF hb]at e
     refine(I.hok b u e).stay (fun c v hc q=>k c v ?_ q) (fun c q=>by rw[aF (ne _ _ q)];exact q) fun c xs q=>by rw[aF (ne _ _ q)];exact q
     rcases hc with z|z
     . rw[z];exact nf b u e
     . exact nf c _ z
def Ite(K:W.Frag)(a:Addr):It :=
 ⟨fun i H=>∃ xs x,SqL K H a xs/\xs[i]? = some x,fun i H x H'=>∃ p y,x = .ref p/\H p=none/\(∀ xs,SqL K H a xs->xs[i]? = some y)/\H'=upd H p (.tup [.int i,y]),fun i H=>∃ xs,SqL K H a xs/\xs.length<=i⟩
theorem Dg{P:Program}{w:World}{K:W.Frag}{elts:List Expr}{x1}{pos:Pos}(a e it:Addr)(hne:e≠it):Turn P w K (.Tuple elts x1 pos) (Ite K a) [e,it] e (fun i h=>(∃ old,IsEnum h e it (i:Nat) old)/\h.IsListIter it a i) where
 mem:=by simp
 obj := fun i h st b hb=>by
  obtain⟨⟨old,s1⟩,o,e1,c,d⟩:=st;rcases List.mem_cons.mp hb with rfl|hb
  . exact⟨_,s1,fun v z=>by
     have z':Data.fields _=Data.cell v:=z
     cases z'⟩
  . have q:b=it:=by simpa using hb
    subst q;exact⟨o,e1,fun v z=>by rw[d]at z;cases z⟩
 keep:=fun i h h' st k=>⟨⟨st.1.choose,k e (by simp) _ st.1.choose_spec⟩,st.2.at fun o q=>k it (by simp) o q⟩
 item := by
  intro X hP hw hK hc i pins s σ H E I hf st hg;subst hP hw hK;obtain⟨xs,x,hq,hx⟩:=hg;obtain⟨its,rv,p,hz⟩:=I.list hq;obtain⟨u,hu,ru⟩:=rv.get hx;obtain⟨⟨old,he⟩,hit⟩:=st;refine wpAny_pyNext_enum_item he hit p.isList (x:=u) (by simpa using hu) hne fun h' ho li tp sz kk=>?_
  refine⟨_,rfl,wpAny_letOwnedTupleGo_enum (s:={ s with heap:=h',toks:=s.toks+1 }) ho fun h2 he2 sb=>?_⟩
  have hlt:∀ b∈[e,it],b<s.heap.objs.size:=fun b hb=>by
   rcases List.mem_cons.mp hb with rfl|hb
   . exact Heap.lt_size he
   . have q:b=it:=by simpa using hb
     subst q;obtain⟨_,e1,_⟩:=hit;exact Heap.lt_size e1
  have ptn:∀ b∈[e,it],b≠s.heap.objs.size:=fun b hb=>Nat.ne_of_lt (hlt b hb)
  have tp2:h2.get? s.heap.objs.size=some { cls:=.type "tuple",data:=.seq #[.int i s.toks,u] }:=(sb.2 _ (Ne.symm (ptn e (by simp)))).trans tp
  have I2:Inv X pins σ (upd H s.heap.objs.size (.tup [.int i,x])) { s with heap:=h2,toks:=s.toks+1 }:=by
   refine I.turns (fp:=[e,it]) hf (fun b v hb q=>?_) (qnr _) ⟨(by show 2<=sizeLine;decide),[.int i s.toks,u],.cons ⟨_,rfl⟩ (.cons ru .nil),⟨_,tp2,rfl,_,rfl⟩⟩;have b1:b≠e:=fun z=>hb (by simp[z])
   have b2:b≠it:=fun z=>hb (by simp[z])
   exact(sb.2 b b1).trans (kk b v b1 b2 q)
  refine⟨.ref s.heap.objs.size,_,I2,rfl,⟨_,x,rfl,I.hok.fresh (qnr _),(fun ys hy=>by rw[I.list_inj hy hq];exact hx),rfl⟩,⟨⟨u,?_⟩,?_⟩,fun b hb=>?_⟩
  . have q:((i+1:Nat):Int)=(i:Int)+1:=by omega
    rw[q];exact he2
  . exact li.at fun o q=>(sb.2 it (Ne.symm hne)).trans q
  . rw[aF (ptn b hb)];exact(hf b hb).1
 done:=by
  intro X hP hw hK hc i pins s σ H E I hf st hg;subst hP hw hK;obtain⟨xs,hq,hx⟩:=hg;obtain⟨its,rv,p,hz⟩:=I.list hq;obtain⟨⟨old,he⟩,hit⟩:=st;obtain⟨f0,f1,f2,f3,f4,f5⟩:=hf it (by simp);have hl:=rv.length;exact wpAny_pyNext_enum_end (I.ok.hd hc) he hit p.isList (by simp;omega) fun h' eb=>⟨rfl,I.turned (t':=s.toks) (fun b o hb q=>eb b o hb q) f0 f1 f3 f4 f5⟩
 self:=fun _ _ _ _ _ st h=>wpAny_pyIter_enum st.1.choose_spec h
def Jl(K:W.Frag)(tl:TE):TI:=fun σ H R=>tl σ H fun x H1=>∃ a,x = .ref a/\(∃ xs,SqL K H1 a xs)/\R (Ite K a) H1
theorem J6 {X:Cx} {elts:List Expr} {x1} {pt p cpos:Pos} {l:Expr} {tl:TE} (hl:PE X l tl) (hg:Gl X "enumerate") (hm:X.mg "enumerate"=none)
  (he:starEach [l] X.env=(false,eval l X.env):: starEach [] X.env:=by rfl) (hpl:(backTo cpos (starEach [] X.env)).any (·.1)=false:=by rfl):
  PI X (.Tuple elts x1 pt) (.Call (.Name "enumerate" p) [l] [] cpos) (Jl X.K tl):=by
 intro pins s σ H R I h;refine wpAny_Call_Name_kw (j7 I hg hm Bt.enumerate ?_ (by decide) (by decide));have h':vH tl qC σ H (fun vs H1=>match vs with | [x]=>∃ a,x = .ref a/\(∃ xs,SqL X.K H1 a xs)/\R (Ite X.K a) H1|_=>False):=h;refine PyProof.Rows.callWith_type1 (thn ((aa hl aj he) cpos pins s σ H _ I h') fun us s1 ⟨vs,H1,I1,r1,q1⟩=>?_) he hpl
 obtain⟨x,rfl⟩:∃ x,vs=[x]:=by
  match vs,q1 with
  |[x],_=>exact⟨x,rfl⟩
 obtain⟨a,rfl,⟨xs,hq⟩,q⟩:=q1;obtain⟨u,rfl,ru⟩:=vals1 r1;cases ru;obtain⟨its,rv,p,hz⟩:=I1.list hq;refine call_enumerate_list p.isList fun h' he' li sz kk=>?_
 refine wpAny_pyIter_enum he' ?_;refine⟨s1.heap.objs.size+1,[s1.heap.objs.size+1,s1.heap.objs.size],_,_,H1,rfl,I1.kept (t':=s1.toks) kk,Dg a (s1.heap.objs.size+1) s1.heap.objs.size (Nat.succ_ne_self _),⟨⟨_,he'⟩,li⟩,fun b hb=>?_,q⟩;rcases List.mem_cons.mp hb with rfl|hb
 . exact I1.fpOk (by omega) (I1.hok.fresh (by omega))
 . have e:b=s1.heap.objs.size:=by simpa using hb
   subst e;exact I1.fpOk (qnr _) (I1.hok.fresh (qnr _))
end L2
namespace L2
open PySem PySem.Spec PyProof.Rows
def Its(x:Str):It:=⟨fun i _=>i<x.cps.size,fun i H v H'=>H'=H/\∃ c,x.cps[i]? = some c/\v = .str ⟨#[c]⟩,fun i _=>i=x.cps.size⟩
theorem wD{P:Program}{w:World}{K:W.Frag}{tg:Expr}(x:Str)(t:Tok)(it:Addr)(T:String)(W:∀ A:Around,A.handled=none->Walks P w A it [it] [it] x.cps.size (SignAt x) (fun i h=>h.IsStrIter it T x t i))
  (sf:∀(A:Around)(i:Nat)(s:Shared)(Q:Value->Shared->Prop)(E:Value->Shared->Prop),s.heap.IsStrIter it T x t i->Q (.ref it) s->wpAny (model P w) A (pyIter (.ref it)) Q E s)
  (hT:["enumerate","zip","dict_itemiterator","dict_reverseitemiterator","odict_iterator","itertools.zip_longest","itertools.pairwise"].contains T=false):
  Turn P w K tg (Its x) [it] it (fun i h=>h.IsStrIter it T x t i) where
 mem:=by simp
 obj:=fun i h st b hb=>by
  have e:b=it:=by simpa using hb
  subst e;obtain⟨o,e,c,d⟩:=st;exact⟨o,e,fun v z=>by rw[d]at z;cases z⟩
 keep:=fun i h h' ⟨o,e,r⟩ k=>⟨o,k it (by simp) o e,r⟩
 item:=by
  intro X hP hw hK hc i pins s σ H E I hf st hg;subst hP hw hK;obtain⟨f0,f1,f2,f3,f4,f5⟩:=hf it (by simp);refine(W X.A (I.ok.hd hc)).item i s _ _ hg st fun v h' tk hv st' kk=>?_
  obtain⟨c,u,hcu,rfl⟩:=hv;have I1:Inv X pins σ H { s with heap:=h',toks:=tk }:=I.turned (fun b o hb e=>kk b o (by simpa using hb) e) f0 f1 f3 f4 f5;obtain⟨o,e,hc',d⟩:=id st';exact⟨_,rfl,vG (s:={ s with heap:=h',toks:=tk }) e hc' d hT ⟨.str ⟨#[c]⟩,H,I1,⟨u,rfl⟩,⟨rfl,c,hcu,rfl⟩,st',fun b hb=>(hf b hb).1⟩⟩
 done:=by
  intro X hP hw hK hc i pins s σ H E I hf st hg;subst hP hw hK;obtain⟨f0,f1,f2,f3,f4,f5⟩:=hf it (by simp);have hg:i=x.cps.size:=hg;subst hg;exact(W X.A (I.ok.hd hc)).done s _ _ st fun h' tk kk=>⟨rfl,I.turned (fun b o hb e=>kk b o (by simpa using hb) e) f0 f1 f3 f4 f5⟩
 self:=fun A i s Q E st h=>sf A i s Q E st h
def Pj(tl:TE):TI:=fun σ H R=>tl σ H fun v H1=>∃ x,v = .str x/\R (Its x) H1
theorem wF{X:Cx}{tg l:Expr}{tl:TE}(hl:PE X l tl):PI X tg l (Pj tl):=by
 intro pins s σ H R I h;refine thn (hl pins s σ H _ I h) fun v s1 ⟨y,H1,I1,r1,q1⟩=>?_
 obtain⟨x,e,q⟩:=q1;subst e;obtain⟨t,rfl⟩:=r1
 have fp:∀ b∈[s1.heap.objs.size],jg X pins H1 b:=fun b hb=>by
  have e:b=s1.heap.objs.size:=by simpa using hb
  subst e;exact I1.fpOk (qnr _) (I1.hok.fresh (qnr _))
 cases ha:x.cps.all (· < 128)
 . refine wpAny_pyIter_wide ha ⟨s1.heap.objs.size,[s1.heap.objs.size],_,_,H1,rfl,I1.kept (t':=s1.toks) fun b o e=>Heap.get?_push_of_some _ e,wD x t _ "str_iterator" (fun A hA=>Walks.strWide hA _ x t) (fun _ _ _ _ _ st h=>wpAny_pyIter_striter_wide st h) (by decide),⟨_,Heap.get?_push_size _ rfl,rfl,rfl⟩,fp,q⟩
 . refine wpAny_pyIter_ascii ha ⟨s1.heap.objs.size,[s1.heap.objs.size],_,_,H1,rfl,I1.kept (t':=s1.toks) fun b o e=>Heap.get?_push_of_some _ e,wD x t _ "str_ascii_iterator" (fun A hA=>Walks.strAscii hA _ x t) (fun _ _ _ _ _ st h=>wpAny_pyIter_striter_ascii st h) (by decide),⟨_,Heap.get?_push_size _ rfl,rfl,rfl⟩,fp,q⟩
section
variable{K:W.Frag}{g:TG}{tb:TS}{D:Ends}{σ:St}{H:Hp}{ix:List (Option Nat)}{tt:TT}{te:TE}{Q:VK}
theorem wG{a:Addr}{xs:List V}(Pv:Nat->St->Hp->Prop)(h0:Pv 0 σ H)(hx:∀ i σ H,i<=xs.length->Pv i σ H->SqL K H a xs)
  (hs:∀ i x σ H,xs[i]? = some x->Pv i σ H->∀ p,H p=none->g (.ref p) σ (upd H p (.tup [.int i,x])) fun σ2 H2=>tb { D with nx:=Pv (i+1),ct:=Pv (i+1),bk:=D.nx } σ2 H2)
  (hd:∀ σ H,Pv xs.length σ H->D.nx σ H):∃ W:Nat->Nat->St->Hp->Prop,(∃ m,W 0 m σ H)/\∀ i m σ H,W i m σ H ->
   ((Ite K a).stop i H/\D.nx σ H)\/((Ite K a).go i H/\∃ N:St->Hp->Prop,(∀ σ' H',N σ' H'->∃ m',m'<m/\W (i+1) m' σ' H')/\∀ x H',(Ite K a).yld i H x H'->g x σ H' fun σ2 H2=>tb { D with nx:=N,ct:=N,bk:=D.nx } σ2 H2):=by
 refine⟨fun i m σ H=>m=xs.length - i/\i<=xs.length/\Pv i σ H,⟨xs.length,by simp,qnz _,h0⟩,?_⟩;rintro i m σ H ⟨rfl,hi,p⟩;have q:=hx i σ H hi p
 by_cases hlt:i<xs.length
 . refine .inr ⟨⟨xs,xs[i],q,by simp[hlt]⟩,Pv (i+1),fun σ' H' p'=>⟨xs.length - (i+1),by omega,rfl,hlt,p'⟩,fun x H' y=>?_⟩
   obtain⟨r,z,rfl,hn,hz,rfl⟩:=y;exact hs i z σ _ (hz xs q) p r hn
 . have e:i=xs.length:=by omega
   subst e;exact .inl ⟨⟨xs,q,qnr _⟩,hd σ H p⟩
theorem J7{x:Str}(Pv:Nat->St->Hp->Prop)(h0:Pv 0 σ H)
  (hs:∀ i c σ H,x.cps[i]? = some c->Pv i σ H->g (.str ⟨#[c]⟩) σ H fun σ2 H2=>tb { D with nx:=Pv (i+1),ct:=Pv (i+1),bk:=D.nx } σ2 H2)
  (hd:∀ σ H,Pv x.cps.size σ H->D.nx σ H):∃ W:Nat->Nat->St->Hp->Prop,(∃ m,W 0 m σ H)/\∀ i m σ H,W i m σ H ->
   ((Its x).stop i H/\D.nx σ H)\/((Its x).go i H/\∃ N:St->Hp->Prop,(∀ σ' H',N σ' H'->∃ m',m'<m/\W (i+1) m' σ' H')/\∀ v H',(Its x).yld i H v H'->g v σ H' fun σ2 H2=>tb { D with nx:=N,ct:=N,bk:=D.nx } σ2 H2):=by
 refine⟨fun i m σ H=>m=x.cps.size - i/\i<=x.cps.size/\Pv i σ H,⟨x.cps.size,by simp,qnz _,h0⟩,?_⟩;rintro i m σ H ⟨rfl,hi,p⟩
 by_cases hlt:i<x.cps.size
 . refine .inr ⟨hlt,Pv (i+1),fun σ' H' p'=>⟨x.cps.size - (i+1),by omega,rfl,hlt,p'⟩,fun v H' y=>?_⟩
   obtain⟨rfl,c,hc,rfl⟩:=y;exact hs i c σ _ hc p
 . have e:i=x.cps.size:=by omega
   subst e;exact .inl ⟨rfl,hd σ H p⟩
theorem uI{a:Addr}{xs:List V}(Pv:Nat->List V->Hp->Prop)(h0:Pv 0 [] H)(hn:xs.length<=sizeLine)(hl:∀ i ys H,Pv i ys H->ys.length<=i)(hx:∀ i ys H,Pv i ys H->SqL K H a xs)
  (hs:∀ i x ys H,xs[i]? = some x->Pv i ys H->∀ p,H p=none->g (.ref p) (cR ix σ) (upd H p (.tup [.int i,x])) fun σ2 H2=>Ext (cR ix σ) σ2/\tt σ2 H2 fun ok H3=>if ok=true then te σ2 H3 fun y H4=>Pv (i+1) (ys++[y]) H4 else Pv (i+1) ys H3)
  (hd:∀ ys H,Pv xs.length ys H->∀ p,H p=none->Q (.ref p) (upd H p (.lst ys))):jE (Ite K a) ix g tt te σ H Q:=by
 refine⟨fun i m ys H=>m=xs.length - i/\i<=xs.length/\Pv i ys H,⟨xs.length,by simp,qnz _,h0⟩,?_⟩;rintro i m ys H ⟨rfl,hi,p⟩;have q:=hx i ys H p;refine⟨qnt (hl _ _ _ p) (qnt hi hn),?_⟩
 by_cases hlt:i<xs.length
 . refine .inr ⟨⟨xs,xs[i],q,by simp[hlt]⟩,Pv (i+1),fun ys' H' p'=>⟨xs.length - (i+1),by omega,rfl,hlt,p'⟩,fun x H' y=>?_⟩
   obtain⟨r,z,rfl,hn',hz,rfl⟩:=y;exact hs i z ys _ (hz xs q) p r hn'
 . have e:i=xs.length:=by omega
   subst e;exact .inl ⟨⟨xs,q,qnr _⟩,hd ys H p⟩
theorem Gq{x:Str}(Pv:Nat->List V->Hp->Prop)(h0:Pv 0 [] H)(hn:x.cps.size<=sizeLine)(hl:∀ i ys H,Pv i ys H->ys.length<=i)
  (hs:∀ i c ys H,x.cps[i]? = some c->Pv i ys H->g (.str ⟨#[c]⟩) (cR ix σ) H fun σ2 H2=>Ext (cR ix σ) σ2/\tt σ2 H2 fun ok H3=>if ok=true then te σ2 H3 fun y H4=>Pv (i+1) (ys++[y]) H4 else Pv (i+1) ys H3)
  (hd:∀ ys H,Pv x.cps.size ys H->∀ p,H p=none->Q (.ref p) (upd H p (.lst ys))):jE (Its x) ix g tt te σ H Q:=by
 refine⟨fun i m ys H=>m=x.cps.size - i/\i<=x.cps.size/\Pv i ys H,⟨x.cps.size,by simp,qnz _,h0⟩,?_⟩;rintro i m ys H ⟨rfl,hi,p⟩;refine⟨qnt (hl _ _ _ p) (qnt hi hn),?_⟩
 by_cases hlt:i<x.cps.size
 . refine .inr ⟨hlt,Pv (i+1),fun ys' H' p'=>⟨x.cps.size - (i+1),by omega,rfl,hlt,p'⟩,fun v H' y=>?_⟩
   obtain⟨rfl,c,hc,rfl⟩:=y;exact hs i c ys _ hc p
 . have e:i=x.cps.size:=by omega
   subst e;exact .inl ⟨rfl,hd ys H p⟩
theorem oJ{x:Str}(f:Nat->V)(hn:x.cps.size<=sizeLine)
  (hs:∀ c (R:VK),c∈x.cps.toList->R (f c) H->Ext (cR ix σ) ((cR ix σ).set 0 (some (.str ⟨#[c]⟩)))/\te ((cR ix σ).set 0 (some (.str ⟨#[c]⟩))) H R)
  (hd:∀ p,H p=none->Q (.ref p) (upd H p (.lst (x.cps.toList.map f)))):jE (Its x) ix (lw 0) Ar te σ H Q:=by
 refine Gq (x:=x) (fun i ys H'=>H'=H/\ys=(x.cps.toList.take i).map f) ⟨rfl,rfl⟩ hn (fun i ys H' ⟨_,e⟩=>by rw[e,qlm,List.length_take];omega) ?_ (fun ys H' ⟨e1,e2⟩ p hp=>by
  subst e1 e2;have e3:x.cps.toList.take x.cps.size=x.cps.toList:=List.take_of_length_le (by simp)
  rw[e3];exact hd p hp)
 rintro i c ys H' hi ⟨rfl,rfl⟩;have hi':x.cps.toList[i]? = some c:=by simpa using hi
 obtain⟨h1,h2⟩:=hs c (fun y H4=>H4=H'/\(x.cps.toList.take i).map f++[y]=(x.cps.toList.take (i+1)).map f) (qmg hi') ⟨rfl,by rw[qta,hi',List.map_append];rfl⟩;exact⟨h1,h2⟩
end
end L2
namespace L2
open PySem PySem.Spec PyProof.Rows
def NZ(te:TE):TE:=fun σ H Q=>te σ H fun v H1=>∃ x,v = .str x/\(reprText x).length <= sizeLine/\Q (.str (reprText x)) H1
section
variable{X:Cx}{e a b:Expr}{te ta tb:TE}{pos:Pos}
theorem tO(he:PE X e te):PE X (.FormattedValue e 114 none pos) (NZ te):=by
 intro pins s σ H Q I h;refine wpAny_FormattedValue_repr (thn (he pins s σ H _ I h) fun v s1 ⟨y,H1,I1,r1,q1⟩=>?_);obtain⟨x,rfl,hx,q⟩:=q1;obtain⟨t,rfl⟩:=r1;refine wpAny_pyReprObj_gives (T := "str") (id := "str.__repr__") rfl PySem.F.slot_str_repr PySem.F.entry_str_repr (PySem.F.args_str_repr_1 _) (gives_str_repr x t) (hx:=hx) ?_;exact formatField_str (hsz:=hx) fun t' tk=>⟨.str _,H1,I1.tok _,⟨t',rfl⟩,q⟩
def LR(ta tb:TE):TE:=fun σ H Q=>ta σ H fun v H1=>∃ x,v = .str x/\x.length<=sizeLine/\tb σ H1 fun u H2=>∃ y,u = .str y/\(x++y).length <= sizeLine/\Q (.str (x++y)) H2
theorem empty_app(x:Str):Str.empty++x=x:=by
 show Str.mk (#[]++x.cps)=x;simp
theorem wH(ha:PE X a ta)(hb:PE X b tb):PE X (.JoinedStr [a,b] pos) (LR ta tb):=by
 intro pins s σ H Q I h;refine JoinedStr_many (joinParts_cons (thn (ha pins s σ H _ I h) fun v s1 ⟨z,H1,I1,r1,q1⟩=>?_));obtain⟨x,rfl,hx,q⟩:=q1;obtain⟨t,rfl⟩:=r1;show(Str.empty++x).length <= sizeLine/\_;rw[empty_app];refine⟨hx,joinParts_cons (thn (hb pins s1 σ H1 _ I1 q) fun v s2 ⟨z,H2,I2,r2,q2⟩=>?_)⟩;obtain⟨y,rfl,hy,q⟩:=q2;obtain⟨t',rfl⟩:=r2;exact⟨hy,joinParts_nil (hsz:=hy) ⟨.str _,H2,I2.tok _,⟨_,rfl⟩,q⟩⟩
end
theorem repr_fits{x:Str}(hx:∀ c∈x.cps.toList,c<16 ^ 8)(hl:x.length<=1000):(reprText x).length <= sizeLine:=by
 have:=PySem.StrLaws.reprText_len x hx;unfold sizeLine;omega
end L2
namespace L2
open PySem PySem.Spec PyProof.Rows
def MdK(P:Program)(w:World)(K:W.Frag)(a:Addr)(kvs:List (Key×V)):Prop :=
 (a == sysModules)=false/\∃ o es ep vs,K.lookup a=some o/\o.ExactDict/\o.data = .dict es ep/\KeysOf (bM P w) es/\Pairs (bM P w) es.toList vs/\(vs.map (·.1)).Nodup /\ KV kvs vs
def N5(a:Addr)(kvs:List (Key×V))(td ty:TE):TE:=fun σ H Q=>td σ H fun x H1=>ty σ H1 fun y H2=>∃ k v,x = .ref a/\y=kV k/\bY kvs k=some v/\Q v H2
def Ma(neg:Bool)(a:Addr)(kvs:List (Key×V))(ty td:TE):TE:=fun σ H Q=>ty σ H fun y H1=>td σ H1 fun x H2=>∃ k,x = .ref a/\y=kV k/\Q (.bl (if neg then !(bY kvs k).isSome else(bY kvs k).isSome)) H2
section
variable{X:Cx}{pins:List (Addr×Obj)}{σ:St}{H:Hp}{s:Shared}{a:Addr}{kvs:List (Key×V)}{o i:Expr}{td ty:TE}{pos:Pos}
theorem MdK.at(M:MdK X.prog X.w X.K a kvs)(I:Inv X pins σ H s):∃ vs,KV kvs vs/\s.heap.DictOf (bM X.prog X.w) a vs:=by
 obtain⟨_,o,es,ep,vs,h1,h2,h3,h4,h5,h6,h7⟩:=M;exact⟨vs,h7,o,es,ep,I.kIn a o h1,h2,h3,h4,h5,h6⟩
theorem jh(M:MdK X.prog X.w X.K a kvs)(hu:X.A.units+1<cLine)(ho:PE X o td)(hi:PE X i ty)(hs:Gi i):PE X (.Subscript o i pos) (N5 a kvs td ty):=by
 intro pins s σ H Q I h;refine yu PySem.F.slot_dict_getitem.lookup hs (thn (ho pins s σ H _ I h) fun u s1 ⟨x,H1,I1,rx,q1⟩=>thn (hi pins s1 σ H1 _ I1 q1) fun iv s2 ⟨y,H2,I2,ry,k,v,ex,ey,l,q2⟩=>?_);subst ex ey;obtain rfl:u=Value.ref a:=rx;obtain⟨vs,rel,dd⟩:=M.at I2;obtain⟨w',hw,rw'⟩:=RelO.some_of (v:=v) (o:=valueAt vs k) (by rw[<- l];exact rel.val k);exact⟨dd.typeIs,wpAny_getItem_of (mZ ry) dd.mapOf hw ⟨v,H2,I2.tok _,rw',q2⟩⟩
theorem Mf(M:MdK X.prog X.w X.K a kvs)(hi:PE X i ty)(ho:PE X o td):PC X .In i o (Ma false a kvs ty td):=by
 intro pins s σ H Q I h;refine thn (hi pins s σ H _ I h) fun iv s1 ⟨y,H1,I1,ry,q1⟩=>thn (ho pins s1 σ H1 _ I1 q1) fun u s2 ⟨x,H2,I2,rx,k,ex,ey,q2⟩=>?_
 subst ex ey;obtain rfl:u=Value.ref a:=rx;obtain⟨vs,rel,dd⟩:=M.at I2;refine wpAny_in_of (mZ ry) M.1 dd.mapOf ?_;rw[<- (rel.val k).isSome_eq];exact⟨.bl _,H2,I2.tok _,rfl,q2⟩
theorem oK(M:MdK X.prog X.w X.K a kvs)(hi:PE X i ty)(ho:PE X o td):PC X .NotIn i o (Ma true a kvs ty td):=by
 intro pins s σ H Q I h;refine thn (hi pins s σ H _ I h) fun iv s1 ⟨y,H1,I1,ry,q1⟩=>thn (ho pins s1 σ H1 _ I1 q1) fun u s2 ⟨x,H2,I2,rx,k,ex,ey,q2⟩=>?_
 subst ex ey;obtain rfl:u=Value.ref a:=rx;obtain⟨vs,rel,dd⟩:=M.at I2;refine wpAny_notIn_of (mZ ry) M.1 dd.mapOf ?_;rw[<- (rel.val k).isSome_eq];exact⟨.bl _,H2,I2.tok _,rfl,q2⟩
end
def MdE(w:World):List DictEntry->List (Key×V)->Prop
 |e::es,(.inr x,v):: r=>e.hash=hashStr w x/\(∃ t,e.key = .str x t)/\RelV v e.val/\MdE w es r
 |e::es,(.inl i,v):: r=>e.hash=hashInt i/\(∃ t,e.key = .int i t)/\RelV v e.val/\MdE w es r
 |[],[]=>True
 |_,_=>False
theorem MdE.out{P:Program}{w:World}:∀{es:List DictEntry}{kvs:List (Key×V)},MdE w es kvs->∃ vs,(∀ e∈es,∃ k,(bM P w).is k e.key=true/\e.hash=(bM P w).hash k)/\Pairs (bM P w) es vs/\vs.map (·.1)=kvs.map (·.1)/\KV kvs vs
 |[],[],_=>⟨[],(fun _ z=>nomatch z),.nil,rfl,.nil⟩
 | e::es,(.inr x,v):: r,⟨h1,⟨t,h2⟩,h3,h4⟩=>by
  obtain⟨vs,a1,a2,a3,a4⟩:=MdE.out (P:=P) h4;have q:(bM P w).is (.inr x) e.key=true:=by rw[h2];exact qb P w x t
  refine⟨(.inr x,e.val):: vs,fun e' he=>?_,.cons q rfl a2,by simp[a3],.cons ⟨rfl,h3⟩ a4⟩;rcases List.mem_cons.mp he with rfl|he
  . exact⟨.inr x,q,h1⟩
  . exact a1 e' he
 | e::es,(.inl i,v):: r,⟨h1,⟨t,h2⟩,h3,h4⟩=>by
  obtain⟨vs,a1,a2,a3,a4⟩:=MdE.out (P:=P) h4;have q:(bM P w).is (.inl i) e.key=true:=by rw[h2];exact p8 P w i t
  refine⟨(.inl i,e.val):: vs,fun e' he=>?_,.cons q rfl a2,by simp[a3],.cons ⟨rfl,h3⟩ a4⟩;rcases List.mem_cons.mp he with rfl|he
  . exact⟨.inl i,q,h1⟩
  . exact a1 e' he
theorem mdk_of {P:Program} {w:World} {K:W.Frag} {a:Addr} {kvs:List (Key×V)} {es:Array DictEntry} {ep:Nat} (l:K.lookup a=some ⟨.type "dict",none,.dict es ep,#[]⟩) (m:MdE w es.toList kvs) (n:(kvs.map (·.1)).Nodup) (s:(a == sysModules)=false):MdK P w K a kvs:=by
 obtain⟨vs,a1,a2,a3,a4⟩:=m.out (P:=P);exact⟨s,_,es,ep,vs,l,⟨rfl,rfl,rfl⟩,rfl,fun e he=>a1 e (by simpa using he),a2,by rw[a3];exact n,a4⟩
end L2
namespace L2
open PySem PySem.Spec PyProof.Rows
section
variable{X:Cx}
theorem lF:OpR X (compareOp .LtE) (fun x y H Q=>∃ i j,x = .str i/\y = .str j/\Q (.bl (!decide (j.cps.toList<i.cps.toList))) H):=by
 intro pins s σ H x y v u Q I rx ry h;obtain⟨i,j,rfl,rfl,q⟩:=h;obtain⟨t,rfl⟩:=rx;obtain⟨t',rfl⟩:=ry;refine PySem.P.le_str ⟨.bl _,H,I,rfl,?_⟩
 first|exact q|simpa using q
end
namespace Bt
end Bt
section
variable{X:Cx}{CX:CXT}{k:Nat}{f C:Addr}{fd:FuncData}{ps:List Str}{sp:Sp}{E:XK}{x m:Str}{p pos apos:Pos}{e o:Expr}{es:List Expr}{ta:TE}{t:TA}
theorem Mg{x:Str}(M:Mk X.K C f)(F:FnOk X.prog X.w X.K X.mg X.base CX k f fd ps sp)(hr:Room (k+1) X.A)(hm:X.mg x=some (.ref C))(hb:Binds X.K fd ps [])(hx:fK CX X E)
  (hg:X.env.scope.names.lookup x=some .globalImplicit:=by kernel_rfl) (hdb:(x == ("__debug__":Str))=false:=by kernel_rfl):PE X (.Call (.Name x p) [] [] pos) (vI C sp [] E qC):=Gd M F hr hg hm hb .nil hx hdb
theorem Dh(F:FnOk X.prog X.w X.K X.mg X.base (CX1 X.prog X.w) k f fd ps sp)(hr:Room k X.A)(hm:X.mg x=some (.ref f))(hk:W.keepIn X.K (.ref f)=true)(hb:Binds X.K fd ps [])(ha:PA X.nox (e::es) t)
  (hg:X.env.scope.names.lookup x=some .globalImplicit:=by kernel_rfl) (hdb:(x == ("__debug__":Str))=false:=by kernel_rfl) (he:starEach (e::es) X.env=(false,eval e X.env):: starEach es X.env:=by rfl) (hpl:(backTo pos (starEach es X.env)).any (·.1)=false:=by rfl):
  PEX X (.Call (.Name x p) (e::es) [] pos) (Dd sp [] t):=Gn F hr hg hm hk hb .nil ha hdb he hpl
end
theorem walk_ofX{l:W.OpenLaw}{n k:Nat}{q:Program}{loose:List Str}{XP:(Str->Option Value)->Heap->Prop}{YP:World->Heap->Prop}{d:DefRec}{K:Params->W.Frag}{sp:W.Frag->Sp}{x:Str}
  (hn:l.most=some n) (hn2:n<=sizeLine) (hdf:d.params.defaults=[]) (hr:Room k callerA)
  (hY:∀(w:World)(h:Heap),YP w h->(K w.params).In h)
  (F:∀(w:World)(mg:Str->Option Value)(fa:Addr)(h:Heap),(K w.params).In h->h.Ns mainGlobals mg->mg d.name=some (.ref fa) ->
   ∃ fd:FuncData,(∀(s:Shared)(u:Value),BindsTo s fd ⟨[u],[]⟩ [(x,u)]) /\
    ∀ base:Heap,(K w.params).In base->base.Ns mainGlobals mg->FnOk l.prog w (K w.params) mg base (CX1 l.prog w) k fa fd [x] (sp (K w.params)))
  (hsp:∀(K:W.Frag)(H:Hp)(a:Addr)(ns:List Int),ns.length<=n->Only H->SqL K H a (ns.map V.int)->sp K [.ref a] H (fun v _=>v = .bl true) fun _ _ _=>False):
  W.WalkO q loose XP YP l.row.toRowW d [] (fun f vs=>PySem.call f vs):=
 JZ (K:=K) (CX:=fun w=>CX1 l.prog w) (sp:=fun w=>sp (K w.params)) hn hn2 hdf hr hY F (fun w H a ns h1 h2 h3=>hsp (K w.params) H a ns h1 h2 h3) fun _ _ _ _ _ ⟨_,_,_,_,_,z⟩=>z
end L2
namespace L2
open PySem PySem.Spec PyProof.Rows
def Mh(ta tb tc:TE):TE:=fun σ H Q=>ta σ H fun v H1=>∃ x,v = .str x/\x.length<=sizeLine/\tb σ H1 fun u H2=>∃ y,u = .str y/\(x++y).length <= sizeLine/\tc σ H2 fun r H3=>∃ z,r = .str z/\(x++y++z).length <= sizeLine/\Q (.str (x++y++z)) H3
section
variable{X:Cx}{e a b c:Expr}{te ta tb tc:TE}{pos:Pos}
theorem Gr(ha:PE X a ta)(hb:PE X b tb)(hc:PE X c tc):PE X (.JoinedStr [a,b,c] pos) (Mh ta tb tc):=by
 intro pins s σ H Q I h;refine JoinedStr_many (joinParts_cons (thn (ha pins s σ H _ I h) fun v s1 ⟨z,H1,I1,r1,q1⟩=>?_));obtain⟨x,rfl,hx,q⟩:=q1;obtain⟨t,rfl⟩:=r1;show(Str.empty++x).length <= sizeLine/\_;rw[empty_app];refine⟨hx,joinParts_cons (thn (hb pins s1 σ H1 _ I1 q) fun v s2 ⟨z,H2,I2,r2,q2⟩=>?_)⟩;obtain⟨y,rfl,hy,q⟩:=q2;obtain⟨t',rfl⟩:=r2;refine⟨hy,joinParts_cons (thn (hc pins s2 σ H2 _ I2 q) fun v s3 ⟨z,H3,I3,r3,q3⟩=>?_)⟩;obtain⟨z,rfl,hz,q⟩:=q3;obtain⟨t'',rfl⟩:=r3;exact⟨hz,joinParts_nil (hsz:=hz) ⟨.str _,H3,I3.tok _,⟨_,rfl⟩,q⟩⟩
end
end L2
namespace L2
open PySem PySem.Spec PyProof.Rows
section
variable{X:Cx}
def N6(K:W.Frag):List V->Hp->VK->Prop:=fun xs H Q=>∃(p:Addr)(ns:List Int),xs=[.ref p]/\SqL K H p (ns.map V.int)/\Q (.int ns.sum) H
theorem uJ(hc:X.calm=true):eG X (.builtin "sum") (N6 X.K):=by
 intro pins s σ H xs us Q I r h;obtain⟨p,ns,rfl,hp,q⟩:=h;obtain⟨u,rfl,ru⟩:=vals1 r;cases ru;obtain⟨its,rv,pl,hz⟩:=I.list hp;have hi:=intsAre_of rv;have hh:X.A.handled=none:=I.ok.hd hc;obtain⟨xs,e⟩:=hi.allInts.items
 have hns:ns=xs.toList.map (·.1):=by
  rw[<- hi.numsOf,<- nums_intItems,<- e]
 have hlen:ns.length=xs.size:=by rw[hns,qlm,Array.length_toList]
 have hn:numAt xs=fun i=>ns.getD i 0:=by
  funext i;rw[hns];exact numAt_eq _ _
 have hl:=pl.isList;rw[e]at hl;refine sum_intListG hh hl fun h' tk t' hk=>?_
 rw[hn,qg ns xs.size (by omega),<- hlen,List.take_length];exact⟨.int _,H,I.kept (t':=tk) hk,⟨t',rfl⟩,q⟩
end
end L2
namespace PySem
open AutoSeq1 (wpAny_loadPart')
theorem Gs(c0:Addr)(its:Array Value)(n:Nat)(dct:Option Addr)(sl:Array (Option Value)):
  Meets (Builtin.«enumerate.__new__» ⟨[.type "enumerate",.ref c0],[]⟩) (fun _ R z=>z.heap.get? c0=some { cls:=.type "tuple",dict:=dct,data:=.seq its n,slots:=sl } /\
   R (.ok (.ret (.ref (z.heap.push { cls:=.type "tuple_iterator",data:=.fields #[.ref c0,.int 0 0] }).objs.size)))
    { z with heap:=(z.heap.push { cls:=.type "tuple_iterator",data:=.fields #[.ref c0,.int 0 0] }).push { cls:=.type "enumerate",data:=.fields #[.none,.bool false,.ref z.heap.objs.size,rawInt 0,.none,.none] } }):=
 .of_wp fun P w A R z h=>by
  obtain⟨hp,g,d,tk,os⟩:=z;obtain⟨q0,h⟩:=h;have hsub:=sub_enumerate;have qT:Heap.IsTuple (Shared.heap ⟨hp,g,d,tk,os⟩) c0 its:=⟨_,q0,rfl,n,rfl⟩
  wp_walk using wpAny_loadPart' q0
  refine wpAny_stack_any fun st=>wpAny_pure ?_
  split
  . rename_i c _ _ _ _ _
    cases(c == Value.type "enumerate")
    . wp_walk using wpAny_loadPart' q0,wpAny_pyIter_tuple qT
      exact⟨_,rfl,h⟩
    . wp_walk using wpAny_loadPart' q0,wpAny_pyIter_tuple qT
      exact⟨_,rfl,h⟩
  . wp_walk using wpAny_loadPart' q0,wpAny_pyIter_tuple qT
    exact⟨_,rfl,h⟩
section
variable{P:Program}{w:World}{A:Around}{E:Value->Shared->Prop}{z:Shared}
theorem Di{c0:Addr}{its:Array Value}{Q:Value->Shared->Prop}(hL:z.heap.IsTuple c0 its)
  (h:∀ h',IsEnum h' (z.heap.objs.size+1) z.heap.objs.size 0 .none -> h'.IsTupleIter z.heap.objs.size c0 0->h'.objs.size=z.heap.objs.size+2 ->
   (∀ b o,z.heap.get? b=some o->h'.get? b=some o)->Q (.ref (z.heap.objs.size+1)) { z with heap:=h' }):
  wpAny (model P w) A (call (.type "enumerate") [.ref c0]) Q E z:=by
 obtain⟨⟨c,dct,dt,sl⟩,hl,hc,n,hd⟩:=hL;obtain rfl:c = .type "tuple":=hc;obtain rfl:dt = .seq its n:=hd;refine callType_new F.called_enumerate (by decide) (F.typeCall_enumerate_1 _) (F.newCall_enumerate_1 _) (fun obj=>F.args_object_init_2 obj _) F.entry_enumerate_new (Gs c0 its n dct sl) ⟨hl,?_⟩;have hz:(z.heap.push { cls:=.type "tuple_iterator",data:=.fields #[.ref c0,.int 0 0] }).objs.size=z.heap.objs.size+1:=Heap.size_push ..;show _/\_;rw[hz]
 have he:IsEnum ((z.heap.push { cls:=.type "tuple_iterator",data:=.fields #[.ref c0,.int 0 0] }).push
   { cls:=.type "enumerate",data:=.fields #[.none,.bool false,.ref z.heap.objs.size,rawInt 0,.none,.none] }) (z.heap.objs.size+1) z.heap.objs.size 0 .none:=by
  have:=Heap.get?_push_size (z.heap.push { cls:=.type "tuple_iterator",data:=.fields #[.ref c0,.int 0 0] })
   (o:={ cls:=.type "enumerate",data:=.fields #[.none,.bool false,.ref z.heap.objs.size,rawInt 0,.none,.none] }) rfl
  rw[hz]at this;exact this
 exact⟨⟨_,he,rfl⟩,h _ he ⟨_,Heap.get?_push_of_some _ (Heap.get?_push_size _ rfl),rfl,rfl⟩ (by rw[Heap.size_push,hz]) fun b o y=>Heap.get?_push_of_some _ (Heap.get?_push_of_some _ y)⟩
theorem Ax{it c0:Addr}{i:Nat}{its:Array Value}{x:Value}{Q:Value->Shared->Prop}(hit:z.heap.IsTupleIter it c0 i)(ht:z.heap.IsTuple c0 its)(hx:its[i]? = some x)
  (hQ:∀ h',h'.IsTupleIter it c0 (i+1)->Heap.SameBut it z.heap h'->Q x { z with heap:=h' }):wpAny (model P w) A (Builtin.SmallTypes.nextOf (.ref it)) Q E z:=by
 obtain⟨o,q1,hc,hd⟩:=id hit;obtain⟨ol,q2,_,nl,q3⟩:=ht;unfold Builtin.SmallTypes.nextOf;refine wpAny_bind (wpAny_callSpecial?_slot (name:=Str.ofString "__next__") hit.typeIs F.slot_tuple_iterator_next (wpAny_call_entry F.slot_tuple_iterator_next hit.typeIs F.entry_tuple_iterator_next ?_ (F.args_tuple_iterator_next_1 _)));show wpAny _ _ (field (.ref it) 0 >>= _) _ _ z;refine wpAny_bind (wpAny_field q1 hd (x:=.ref c0) rfl ?_);show wpAny _ _ (if (Value.ref c0 == Value.none)=true then _ else _) _ _ z;rw[qnZ (show ¬ ((Value.ref c0 == Value.none)=true)from qbf)];show wpAny _ _ (field (.ref it) 1 >>= _) _ _ z;refine wpAny_bind (wpAny_field q1 hd (x:=.int i 0) rfl ?_);show wpAny _ _ (seqItems? (.ref c0) >>= _) _ _ z;refine wpAny_bind (wpAny_seqItems q2 q3 ?_);simp only[Int.toNat_natCast,hx];refine wpAny_bind (wpAny_setField q1 hd (by simp) (wpAny_pure ⟨x,rfl,wpAny_pure (hQ _ ?_ (Heap.SameBut.update ..))⟩));exact⟨_,Heap.get?_update_self _ q1 (Obj.isFreed_of_fields (Obj.data_mapFields hd _)),(Obj.cls_mapFields ..).trans hc,by rw[Obj.data_mapFields hd];simp[rawInt]⟩
theorem uK{it c0:Addr}{i:Nat}{its:Array Value}{Q:Value->Shared->Prop}(hh:A.handled=none)(hit:z.heap.IsTupleIter it c0 i)(ht:z.heap.IsTuple c0 its)(hx:its[i]? = none)
  (hE:∀ h' e,Heap.ExtBut it z.heap h'->(∃ o,h'.get? e=some o/\o.cls = .type "StopIteration")->E (.ref e) { z with heap:=h' }):wpAny (model P w) A (Builtin.SmallTypes.nextOf (.ref it)) Q E z:=by
 obtain⟨o,q1,hc,hd⟩:=id hit;obtain⟨ol,q2,_,nl,q3⟩:=ht;unfold Builtin.SmallTypes.nextOf;refine wpAny_bind (wpAny_callSpecial?_slot (name:=Str.ofString "__next__") hit.typeIs F.slot_tuple_iterator_next (wpAny_call_entry F.slot_tuple_iterator_next hit.typeIs F.entry_tuple_iterator_next ?_ (F.args_tuple_iterator_next_1 _)));show wpAny _ _ (field (.ref it) 0 >>= _) _ _ z;refine wpAny_bind (wpAny_field q1 hd (x:=.ref c0) rfl ?_);show wpAny _ _ (if (Value.ref c0 == Value.none)=true then _ else _) _ _ z;rw[qnZ (show ¬ ((Value.ref c0 == Value.none)=true)from qbf)];show wpAny _ _ (field (.ref it) 1 >>= _) _ _ z;refine wpAny_bind (wpAny_field q1 hd (x:=.int i 0) rfl ?_);show wpAny _ _ (seqItems? (.ref c0) >>= _) _ _ z;refine wpAny_bind (wpAny_seqItems q2 q3 ?_);simp only[Int.toNat_natCast,hx];refine wpAny_bind (wpAny_rule (wpAny_bind (wpAny_setField q1 hd (by simp) ?_)));show wpAny _ _ (newExc (.type "StopIteration") [] >>= _) _ _ _;refine wpAny_bind ?_;simp only[newExc,newTuple];refine wpAny_bind (wpAny_newObj_type ?_ (by size_fits));refine wpAny_bind (m:=firstArgMember _ _) (wpAny_of_eq (a:=Value.none) (by first|rfl | (simp only[firstArgMember];rfl)) ?_);refine wpAny_newObj_type ?_ (by size_fits);simp only[raiseNew];refine wpAny_bind (wpAny_handled ?_)
 first|rw[show A.in1.handled=none from hh] | rw[hh]
 refine wpAny_bind (wpAny_pure (wpAny_throw ?_));exact hE _ _ (((Heap.SameBut.update ..).extBut.push _).push _) ⟨_,Heap.get?_push_size _ rfl,rfl⟩
end
theorem Heap.IsTuple.on{h h':Heap}{c0:Addr}{its:Array Value}(y:h.IsTuple c0 its)(k:∀ o,h.get? c0=some o->h'.get? c0=some o):h'.IsTuple c0 its:=let ⟨o,e,r⟩:=y;⟨o,k o e,r⟩
theorem Heap.IsTupleIter.on{h h':Heap}{it c0:Addr}{i:Nat}(y:h.IsTupleIter it c0 i)(k:∀ o,h.get? it=some o->h'.get? it=some o):h'.IsTupleIter it c0 i:=let ⟨o,e,r⟩:=y;⟨o,k o e,r⟩
theorem Dj{P:Program}{w:World}{A:Around}(hh:A.handled=none)(it c0:Addr)(hne:c0≠it)(its:Array Value):
  Draws P w A it [it,c0] its.size (fun i v=>its[i]? = some v) (fun i h=>h.IsTupleIter it c0 i/\h.IsTuple c0 its) where
 live:=fun _ _ st=>by obtain⟨o,e,_⟩:=st.1;exact⟨o,e⟩
 frame:=fun _ _ _ st hk=>⟨st.1.on fun o e=>hk it (by simp) o e,st.2.on fun o e=>hk c0 (by simp) o e⟩
 item:=fun i z Q E hi st hQ=>Ax st.1 st.2 (x:=its[i]) (by simp[hi]) fun h' hit' hs'=>hQ _ h' z.toks (by simp[hi]) ⟨hit',st.2.extBut hs'.extBut hne⟩ hs'
 done:=fun z Q E st hE=>uK hh st.1 st.2 (by simp) hE
end PySem
namespace L2
open PySem PySem.Spec PyProof.Rows
def qI(K:W.Frag)(a:Addr):It :=
 ⟨fun i H=>∃ xs x,SqT K H a xs/\xs[i]? = some x,fun i H x H'=>∃ p y,x = .ref p/\H p=none/\(∀ xs,SqT K H a xs->xs[i]? = some y)/\H'=upd H p (.tup [.int i,y]),fun i H=>∃ xs,SqT K H a xs/\xs.length<=i⟩
theorem Ay{P:Program}{w:World}{K:W.Frag}{elts:List Expr}{x1}{pos:Pos}(a e it:Addr)(hne:e≠it)(hea:e≠a)(hia:a≠it):
  Turn P w K (.Tuple elts x1 pos) (qI K a) [e,it] e (fun i h=>(∃ old,IsEnum h e it (i:Nat) old)/\h.IsTupleIter it a i) where
 mem:=by simp
 obj := fun i h st b hb=>by
  obtain⟨⟨old,s1⟩,o,e1,c,d⟩:=st;rcases List.mem_cons.mp hb with rfl|hb
  . exact⟨_,s1,fun v z=>by
     have z':Data.fields _=Data.cell v:=z
     cases z'⟩
  . have q:b=it:=by simpa using hb
    subst q;exact⟨o,e1,fun v z=>by rw[d]at z;cases z⟩
 keep:=fun i h h' st k=>⟨⟨st.1.choose,k e (by simp) _ st.1.choose_spec⟩,st.2.on fun o q=>k it (by simp) o q⟩
 item := by
  intro X hP hw hK hc i pins s σ H E I hf st hg;subst hP hw hK;obtain⟨xs,x,hq,hx⟩:=hg;obtain⟨its,rv,p,hz⟩:=I.tuple hq;obtain⟨u,hu,ru⟩:=rv.get hx;obtain⟨⟨old,he⟩,hit⟩:=st;have D:=Dj (P:=X.prog) (w:=X.w) (A:=X.A.in1) (I.ok.hd hc) it a hia its.toArray
  have hlt:i<its.toArray.size:=by
   have:=(List.getElem?_eq_some_iff.mp hu).1
   simpa using this
  refine wpAny_pyNext_enum_itemD D he ⟨hit,(show s.heap.IsTuple a its.toArray from p)⟩ hlt hne (by simp[hne,hea]) fun x' h' tk hP ho stn tp sz kk=>?_
  obtain rfl:x'=u:=by
   have h1:its.toArray[i]? = some u:=by simpa using hu
   rw[hP]at h1;exact qsi h1
  refine⟨_,rfl,wpAny_letOwnedTupleGo_enum (s:={ s with heap:=h',toks:=tk+1 }) ho fun h2 he2 sb=>?_⟩
  have hlt:∀ b∈[e,it],b<s.heap.objs.size:=fun b hb=>by
   rcases List.mem_cons.mp hb with rfl|hb
   . exact Heap.lt_size he
   . have q:b=it:=by simpa using hb
     subst q;obtain⟨_,e1,_⟩:=hit;exact Heap.lt_size e1
  have ptn:∀ b∈[e,it],b≠s.heap.objs.size:=fun b hb=>Nat.ne_of_lt (hlt b hb)
  have tp2:h2.get? s.heap.objs.size=some { cls:=.type "tuple",data:=.seq #[.int i tk,x'] }:=(sb.2 _ (Ne.symm (ptn e (by simp)))).trans tp
  have I2:Inv X pins σ (upd H s.heap.objs.size (.tup [.int i,x])) { s with heap:=h2,toks:=tk+1 }:=by
   refine I.turns (fp:=[e,it]) hf (fun b v hb q=>?_) (qnr _) ⟨(by show 2<=sizeLine;decide),[.int i tk,x'],.cons ⟨_,rfl⟩ (.cons ru .nil),⟨_,tp2,rfl,_,rfl⟩⟩;have b1:b≠e:=fun z=>hb (by simp[z])
   have b2:b≠it:=fun z=>hb (by simp[z])
   exact(sb.2 b b1).trans (kk b v b1 b2 q)
  refine⟨.ref s.heap.objs.size,_,I2,rfl,⟨_,x,rfl,I.hok.fresh (qnr _),(fun ys hy=>by rw[I.tuple_inj hy hq];exact hx),rfl⟩,⟨⟨x',?_⟩,?_⟩,fun b hb=>?_⟩
  . have q:((i+1:Nat):Int)=(i:Int)+1:=by omega
    rw[q];exact he2
  . exact stn.1.on fun o q=>(sb.2 it (Ne.symm hne)).trans q
  . rw[aF (ptn b hb)];exact(hf b hb).1
 done:=by
  intro X hP hw hK hc i pins s σ H E I hf st hg;subst hP hw hK;obtain⟨xs,hq,hx⟩:=hg;obtain⟨its,rv,p,hz⟩:=I.tuple hq;obtain⟨⟨old,he⟩,hit⟩:=st;obtain⟨f0,f1,f2,f3,f4,f5⟩:=hf it (by simp);have hl:=rv.length;have D:=Dj (P:=X.prog) (w:=X.w) (A:=X.A.in1) (I.ok.hd hc) it a hia its.toArray;have hT:s.TypeIs (.ref e) "enumerate":=⟨_,he,rfl⟩
  unfold pyNext;refine wpAny_bind (wpAny_attempt (wpAny_callSpecial?_slot (name:=Str.ofString "__next__") hT F.slot_enumerate_next (wpAny_call_entry F.slot_enumerate_next hT F.entry_enumerate_next ?_ (F.args_enumerate_next_1 _))));show wpAny _ _ (field (.ref e) 2 >>= _) _ _ _;refine wpAny_bind (wpAny_field he rfl (x:=.ref it) rfl ?_);refine wpAny_bind (uK (I.ok.hd hc) hit (show s.heap.IsTuple a its.toArray from p) (by simp;omega) fun h' y eb hx'=>?_);obtain⟨o,q1,q2⟩:=hx';refine wpAny_bind (wpAny_isInstance (T := "StopIteration") (b:=true) ⟨o,q1,q2⟩ isSubtype_stop ?_);exact wpAny_pure ⟨rfl,I.turned (t':=s.toks) (fun b o hb q=>eb b o hb q) f0 f1 f3 f4 f5⟩
 self:=fun _ _ _ _ _ st h=>wpAny_pyIter_enum st.1.choose_spec h
def Dk(K:W.Frag)(tl:TE):TI:=fun σ H R=>tl σ H fun x H1=>∃ a,x = .ref a/\(∃ xs,SqT K H1 a xs)/\R (qI K a) H1
theorem Gu {X:Cx} {elts:List Expr} {x1} {pt p cpos:Pos} {l:Expr} {tl:TE} (hl:PE X l tl) (hg:Gl X "enumerate") (hm:X.mg "enumerate"=none)
  (he:starEach [l] X.env=(false,eval l X.env):: starEach [] X.env:=by rfl) (hpl:(backTo cpos (starEach [] X.env)).any (·.1)=false:=by rfl):
  PI X (.Tuple elts x1 pt) (.Call (.Name "enumerate" p) [l] [] cpos) (Dk X.K tl):=by
 intro pins s σ H R I h;refine wpAny_Call_Name_kw (j7 I hg hm Bt.enumerate ?_ (by decide) (by decide));have h':vH tl qC σ H (fun vs H1=>match vs with | [x]=>∃ a,x = .ref a/\(∃ xs,SqT X.K H1 a xs)/\R (qI X.K a) H1|_=>False):=h;refine PyProof.Rows.callWith_type1 (thn ((aa hl aj he) cpos pins s σ H _ I h') fun us s1 ⟨vs,H1,I1,r1,q1⟩=>?_) he hpl
 obtain⟨x,rfl⟩:∃ x,vs=[x]:=by
  match vs,q1 with
  |[x],_=>exact⟨x,rfl⟩
 obtain⟨a,rfl,⟨xs,hq⟩,q⟩:=q1;obtain⟨u,rfl,ru⟩:=vals1 r1;cases ru;obtain⟨its,rv,p,hz⟩:=I1.tuple hq;have pT:s1.heap.IsTuple a its.toArray:=p
 have hlt:a<s1.heap.objs.size:=by
  obtain⟨_,e1,_⟩:=pT;exact Heap.lt_size e1
 refine Di pT fun h' he' li sz kk=>?_
 refine wpAny_pyIter_enum he' ?_;refine⟨s1.heap.objs.size+1,[s1.heap.objs.size+1,s1.heap.objs.size],_,_,H1,rfl,I1.kept (t':=s1.toks) kk,Ay a (s1.heap.objs.size+1) s1.heap.objs.size (Nat.succ_ne_self _) (Nat.ne_of_gt (Nat.lt_succ_of_lt hlt)) (Nat.ne_of_lt hlt),⟨⟨_,he'⟩,li⟩,fun b hb=>?_,q⟩;rcases List.mem_cons.mp hb with rfl|hb
 . exact I1.fpOk (by omega) (I1.hok.fresh (by omega))
 . have e:b=s1.heap.objs.size:=by simpa using hb
   subst e;exact I1.fpOk (qnr _) (I1.hok.fresh (qnr _))
section
variable{X:Cx}{elts:List Expr}{x1:Nat}{pt p cpos:Pos}{l:Expr}{tl:TE}
theorem vL (hl:PE X l tl) (hm:X.mg "enumerate"=none) (hg:X.env.scope.names.lookup ("enumerate":Str)=some .globalImplicit:=by kernel_rfl)
  (he:starEach [l] X.env=(false,eval l X.env):: starEach [] X.env:=by rfl) (hpl:(backTo cpos (starEach [] X.env)).any (·.1)=false:=by rfl):
  PI X (.Tuple elts x1 pt) (.Call (.Name "enumerate" p) [l] [] cpos) (Jl X.K tl):=J6 hl hg hm he hpl
theorem jF (hl:PE X l tl) (hm:X.mg "enumerate"=none) (hg:X.env.scope.names.lookup ("enumerate":Str)=some .globalImplicit:=by kernel_rfl)
  (he:starEach [l] X.env=(false,eval l X.env):: starEach [] X.env:=by rfl) (hpl:(backTo cpos (starEach [] X.env)).any (·.1)=false:=by rfl):
  PI X (.Tuple elts x1 pt) (.Call (.Name "enumerate" p) [l] [] cpos) (Dk X.K tl):=Gu hl hg hm he hpl
end
section
variable{K:W.Frag}{g:TG}{tb:TS}{D:Ends}{σ:St}{H:Hp}{ix:List (Option Nat)}{tt:TT}{te:TE}{Q:VK}
theorem uL{a:Addr}{xs:List V}(Pv:Nat->St->Hp->Prop)(h0:Pv 0 σ H)(hx:∀ i σ H,i<=xs.length->Pv i σ H->SqT K H a xs)
  (hs:∀ i x σ H,xs[i]? = some x->Pv i σ H->∀ p,H p=none->g (.ref p) σ (upd H p (.tup [.int i,x])) fun σ2 H2=>tb { D with nx:=Pv (i+1),ct:=Pv (i+1),bk:=D.nx } σ2 H2)
  (hd:∀ σ H,Pv xs.length σ H->D.nx σ H):∃ W:Nat->Nat->St->Hp->Prop,(∃ m,W 0 m σ H)/\∀ i m σ H,W i m σ H ->
   ((qI K a).stop i H/\D.nx σ H)\/((qI K a).go i H/\∃ N:St->Hp->Prop,(∀ σ' H',N σ' H'->∃ m',m'<m/\W (i+1) m' σ' H')/\∀ x H',(qI K a).yld i H x H'->g x σ H' fun σ2 H2=>tb { D with nx:=N,ct:=N,bk:=D.nx } σ2 H2):=by
 refine⟨fun i m σ H=>m=xs.length - i/\i<=xs.length/\Pv i σ H,⟨xs.length,by simp,qnz _,h0⟩,?_⟩;rintro i m σ H ⟨rfl,hi,p⟩;have q:=hx i σ H hi p
 by_cases hlt:i<xs.length
 . refine .inr ⟨⟨xs,xs[i],q,by simp[hlt]⟩,Pv (i+1),fun σ' H' p'=>⟨xs.length - (i+1),by omega,rfl,hlt,p'⟩,fun x H' y=>?_⟩
   obtain⟨r,z,rfl,hn,hz,rfl⟩:=y;exact hs i z σ _ (hz xs q) p r hn
 . have e:i=xs.length:=by omega
   subst e;exact .inl ⟨⟨xs,q,qnr _⟩,hd σ H p⟩
theorem gJ{a:Addr}{xs:List V}(Pv:Nat->List V->Hp->Prop)(h0:Pv 0 [] H)(hn:xs.length<=sizeLine)(hl:∀ i ys H,Pv i ys H->ys.length<=i)(hx:∀ i ys H,Pv i ys H->SqT K H a xs)
  (hs:∀ i x ys H,xs[i]? = some x->Pv i ys H->∀ p,H p=none->g (.ref p) (cR ix σ) (upd H p (.tup [.int i,x])) fun σ2 H2=>Ext (cR ix σ) σ2/\tt σ2 H2 fun ok H3=>if ok=true then te σ2 H3 fun y H4=>Pv (i+1) (ys++[y]) H4 else Pv (i+1) ys H3)
  (hd:∀ ys H,Pv xs.length ys H->∀ p,H p=none->Q (.ref p) (upd H p (.lst ys))):jE (qI K a) ix g tt te σ H Q:=by
 refine⟨fun i m ys H=>m=xs.length - i/\i<=xs.length/\Pv i ys H,⟨xs.length,by simp,qnz _,h0⟩,?_⟩;rintro i m ys H ⟨rfl,hi,p⟩;have q:=hx i ys H p;refine⟨qnt (hl _ _ _ p) (qnt hi hn),?_⟩
 by_cases hlt:i<xs.length
 . refine .inr ⟨⟨xs,xs[i],q,by simp[hlt]⟩,Pv (i+1),fun ys' H' p'=>⟨xs.length - (i+1),by omega,rfl,hlt,p'⟩,fun x H' y=>?_⟩
   obtain⟨r,z,rfl,hn',hz,rfl⟩:=y;exact hs i z ys _ (hz xs q) p r hn'
 . have e:i=xs.length:=by omega
   subst e;exact .inl ⟨⟨xs,q,qnr _⟩,hd ys H p⟩
end
end L2
namespace HT
open PySem PySem.Spec PyProof.Rows
section
variable{P:Program}{w:World}{A:Around}{E:Value->Shared->Prop}{z:Shared}
end
end HT
namespace L2
open PySem PySem.Spec PyProof.Rows
section
variable{X:Cx}
def Jm(n:Nat)(lo hi:Option Int):Prop:=HT.sIx n 0 lo=0/\HT.sIx n n hi=n
instance (n:Nat) (lo hi:Option Int):Decidable (Jm n lo hi):=by unfold Jm;infer_instance
def Pk(r:V->List V->Hp->VK->Prop)(to:TE)(t:TA):TE:=fun σ H Q=>to σ H fun x H1=>∃ p ys,x = .ref p/\H1 p=some (.tup ys)/\t σ H1 fun xs H2=>r x xs H2 Q
variable{o e:Expr}{es:List Expr}{to:TE}{t:TA}{name:Str}{apos cpos:Pos}{id:String}{r:V->List V->Hp->VK->Prop}
theorem Mi (slot:Slot "tuple" name id) (hty:typeOf (.builtin id)=pure (.type "method_descriptor")) (hm:MtR X id r) (ho:PE X o to) (ha:PA X (e::es) t) (hbase:attributeBase o name X.env (eval o X.env)=eval o X.env:=by rfl)
  (hfew:((backTo cpos (starEach (e::es) X.env)).all (fun x=>!x.1) && (backToKw cpos (keywordEach [] X.env)).all (fun x=>x.1.isSome) && decide ((e::es).length+([]:List Keyword).length+(if ([]:List Keyword).isEmpty then 0 else 1)<30))=true:=by rfl)
  (hline:(apos.endLine == cpos.line)=true:=by rfl) (hs:starEach (e::es) X.env=(false,eval e X.env):: starEach es X.env:=by rfl) (hplain:(backTo cpos (starEach es X.env)).any (·.1)=false:=by rfl):
  PE X (.Call (.Attribute o name apos) (e::es) [] cpos) (Pk r to t):=by
 intro pins s σ H Q I h;refine wpAny_Call_method_late hbase hfew hline rfl (thn (ho pins s σ H _ I h) fun v s1 ⟨x,H1,I1,r1,p,ys,ex,hp,q1⟩=>?_);subst ex;have ev:v=Value.ref p:=r1;subst ev;obtain⟨_,its,_,ob,e1,c1,n,d1⟩:=(show ObjOk X.prog X.w H1 s1.heap p (.tup ys)from I1.hok p _ hp)
 refine⟨"tuple",id,PySem.F.plainAttrs_tuple,slot,hty,⟨ob,e1,c1⟩,fun a ea=>?_,?_⟩
 . cases ea
   exact⟨ob,e1,congrArg Prod.snd d1⟩
 have hA:=ha cpos pins s1 σ H1 _ I1 q1;rw[hs]at hA ⊢;refine Calls.callWith_builtin (by show(false || (backTo cpos (starEach es X.env)).any (·.1))=false;rw[hplain] <;> rfl) (Calls.evalArgs_plain ?_);exact thn hA fun us s2 ⟨vs,H2,I2,r2,q2⟩=>hm pins s2 σ H2 _ vs _ us Q I2 r1 r2 q2
end
end L2
namespace PySem
section
variable{P0:Program}{w:World}{A:Around}{R:Result->Shared->Prop}{I:Addr}{fp wr:List Addr}{n:Nat}{P:Nat->Value->Prop}{St:Nat->Heap->Prop}
theorem Dl(W:Walks P0 w A.in1 I fp wr n P St)(bt:Nat->Nat->Bool)(hcmp:CmpOf P0 w A.in1 .Lt P bt)(S:Addr)(hSf:S∉fp)(d:Value):
  ∀(k j:Nat) (z:Shared) (vb:Value) (c:Nat),n - (j+1)=k->j+1<=n->St (j+1) z.heap->P (argBest bt j) vb->z.heap.get? S=some { cls:=.type "list",dict:=none,data:=.seq #[vb,vb] c,slots:=#[] } ->
  (∀ v h' tk,P (argBest bt (n - 1)) v->(∀ b o,b∉wr->b≠S->z.heap.get? b=some o->h'.get? b=some o)->R (.ok (.ret v)) { z with heap:=h',toks:=tk }) ->
  codeAny (model P0 w) A (.builtin "min.loop" ⟨[.ref I,.none,.ref S],[("default",d)]⟩) R z:=by
 have hSw:S∉wr:=fun y=>hSf (W.sub _ y)
 have q0:(toString "min"++toString ".loop" : String)="min.loop":=by decide
 intro k
 induction k with
 | zero =>
  intro j z vb c hk hj hst hPb hS hR;have hin:j+1=n:=by omega
  refine codeAny_builtin F.entry_min_loop ?_;rw[Around.under_plainId F.plain_min_loop _];show wpAny _ A.in1 (seqItems? (.ref S) >>= _) _ _ z;refine wpAny_bind (wpAny_seqItems hS rfl ?_);show wpAny _ A.in1 (tryCatch (pyNext (.ref I)) _ >>= _) _ _ z;refine wpAny_bind (wpAny_tryCatch (W.done z _ _ (hin ▸ hst) fun h' tk hk'=>?_));have q1:=hk' S _ hSw hS;show wpAny _ A.in1 (updateSeq S (fun _=>#[]) >>= _) _ _ _;refine wpAny_bind ?_;refine wpAny_updateSeq q1 rfl (wpAny_bind (wpAny_letGo (wpAny_pure ?_)));exact hR vb _ tk (by rw[<- hin];exact hPb) fun b o hbw hbS e=>(Heap.get?_update_other _ _ (Ne.symm hbS)).trans (hk' b o hbw e)
 | succ k ih =>
  intro j z vb c hk hj hst hPb hS hR;have hlt:j+1<n:=by omega
  refine codeAny_builtin F.entry_min_loop ?_;rw[Around.under_plainId F.plain_min_loop _];show wpAny _ A.in1 (seqItems? (.ref S) >>= _) _ _ z;refine wpAny_bind (wpAny_seqItems hS rfl ?_);show wpAny _ A.in1 (tryCatch (pyNext (.ref I)) _ >>= _) _ _ z;refine wpAny_bind (wpAny_tryCatch (W.item (j+1) z _ _ hlt hst fun v h' tk hP hst' hk'=>?_));have q1:=hk' S _ hSw hS;show wpAny _ A.in1 (tryCatch (holding [v,v] (richCompare .Lt v vb >>= _)) _ >>= _) _ _ _;refine wpAny_bind (wpAny_tryCatch (wpAny_holding (wpAny_bind (hcmp (j+1) (argBest bt j) v vb _ _ _ hP hPb ?_))));refine wpAny_bind (wpAny_holding (wpAny_truthy_bool ?_));refine wpAny_bind (wpAny_letGo (wpAny_pure ?_));cases hb:bt (j+1) (argBest bt j)with
  | true =>
   simp only[if_true];refine wpAny_bind ?_;refine wpAny_updateSeq q1 rfl (wpAny_bind (wpAny_letGo ?_));rw[q0];refine wpAny_pure ⟨plainId_quiet F.plain_min_loop _,ih (j+1) _ v _ (by omega) hlt (W.frame _ _ _ hst' fun b hbf o e=>?_) (by simp only[argBest,hb,if_true];exact hP) (Heap.get?_update_self _ q1 rfl) fun v' h'' tk'' hP' hk''=>?_⟩
   . exact(Heap.get?_update_other _ _ (fun y:S=b=>hSf (by rw[y];exact hbf))).trans e
   . exact hR v' h'' tk'' hP' fun b o hbw hbS e=>hk'' b o hbw hbS ((Heap.get?_update_other _ _ (Ne.symm hbS)).trans (hk' b o hbw e))
  | false =>
   simp only[Bool.false_eq_true,if_false];refine wpAny_bind (wpAny_letGo ?_);rw[q0];refine wpAny_pure ⟨plainId_quiet F.plain_min_loop _,ih (j+1) _ vb c (by omega) hlt hst' (by simp only[argBest,hb,Bool.false_eq_true,if_false];exact hPb) q1 fun v' h'' tk'' hP' hk''=>?_⟩;exact hR v' h'' tk'' hP' fun b o hbw hbS e=>hk'' b o hbw hbS (hk' b o hbw e)
theorem Az(W:Walks P0 w A.in1 I fp wr n P St)(bt:Nat->Nat->Bool)(hcmp:CmpOf P0 w A.in1 .Lt P bt)(S:Addr)(hSf:S∉fp)(d:Value){z:Shared}{c:Nat}(hst:St 0 z.heap)
  (hS:z.heap.get? S=some { cls:=.type "list",dict:=none,data:=.seq #[] c,slots:=#[] })
  (hR:0<n->∀ v h' tk,P (argBest bt (n - 1)) v->(∀ b o,b∉wr->b≠S->z.heap.get? b=some o->h'.get? b=some o)->R (.ok (.ret v)) { z with heap:=h',toks:=tk })
  (hE:n=0->∀ h' tk,(∀ b o,b∉wr->b≠S->z.heap.get? b=some o->h'.get? b=some o)->R (.ok (.ret d)) { z with heap:=h',toks:=tk }):
  codeAny (model P0 w) A (.builtin "min.loop" ⟨[.ref I,.none,.ref S],[("default",d)]⟩) R z:=by
 have hSw:S∉wr:=fun y=>hSf (W.sub _ y)
 have q0:(toString "min"++toString ".loop" : String)="min.loop":=by decide
 refine codeAny_builtin F.entry_min_loop ?_;rw[Around.under_plainId F.plain_min_loop _];show wpAny _ A.in1 (seqItems? (.ref S) >>= _) _ _ z;refine wpAny_bind (wpAny_seqItems hS rfl ?_);show wpAny _ A.in1 (tryCatch (pyNext (.ref I)) _ >>= _) _ _ z
 by_cases hn:n=0
 . refine wpAny_bind (wpAny_tryCatch (W.done z _ _ (hn ▸ hst) fun h' tk hk'=>?_))
   show wpAny _ A.in1 (rule _ >>= _) _ _ _;refine wpAny_bind (wpAny_rule (wpAny_pure ?_));exact hE hn h' tk fun b o hbw _ e=>hk' b o hbw e
 . have hn:0<n:=by omega
   refine wpAny_bind (wpAny_tryCatch (W.item 0 z _ _ hn hst fun v h' tk hP hst' hk'=>?_));have q1:=hk' S _ hSw hS;show wpAny _ A.in1 (updateSeq S (fun _=>#[v,v]) >>= _) _ _ _;refine wpAny_bind ?_;refine wpAny_updateSeq q1 rfl ?_;rw[q0];refine wpAny_pure ⟨plainId_quiet F.plain_min_loop _,Dl W bt hcmp S hSf d _ 0 _ v _ rfl hn (W.frame _ _ _ hst' fun b hbf o e=>?_) hP (Heap.get?_update_self _ q1 rfl) fun v' h'' tk'' hP' hk''=>?_⟩
   . exact(Heap.get?_update_other _ _ (fun y:S=b=>hSf (by rw[y];exact hbf))).trans e
   . exact hR hn v' h'' tk'' hP' fun b o hbw hbS e=>hk'' b o hbw hbS ((Heap.get?_update_other _ _ (Ne.symm hbS)).trans (hk' b o hbw e))
end
theorem Dm(a v:Value):argsOk "min" ⟨[a],[(Str.ofString "default",v)]⟩:=by unfold argsOk;kernel_rfl
section
variable{P0:Program}{w:World}{A:Around}{E:Value->Shared->Prop}{z:Shared}{l:Addr}{xs:Array (Int×Tok)}
theorem Dn{Q:Value->Shared->Prop}{d:Value}(hh:A.handled=none)(hl:z.heap.IsList l (intItems xs))
  (h1:0<xs.size->∀ v h' tk,(intItems xs)[argBest (fun i j=>decide (numAt xs i<numAt xs j)) (xs.size - 1)]? = some v->(∀ b o,z.heap.get? b=some o->h'.get? b=some o)->Q v { z with heap:=h',toks:=tk })
  (h0:xs.size=0->∀ h' tk,(∀ b o,z.heap.get? b=some o->h'.get? b=some o)->Q d { z with heap:=h',toks:=tk }):
  wpAny (model P0 w) A (call (.builtin "min") [.ref l] [(Str.ofString "default",d)]) Q E z:=by
 have q0:(toString "min"++toString ".loop" : String)="min.loop":=by decide
 refine PyProof.Rows.kmk_tree F.kind_min F.plain_min F.entry_min (Dm _ _) ?_;show wpAny _ A.in1 (Builtin.Builtins.bindParams "min" ["key","default"] 0 ⟨[],[(Str.ofString "default",d)]⟩ >>= _) _ _ z;refine wpAny_bind (wpAny_of_eq (show Builtin.Builtins.bindParams "min" ["key","default"] 0 ⟨[],[(Str.ofString "default",d)]⟩=pure [none,some d]from rfl) ?_);refine wpAny_bind (wpAny_pure ?_);refine wpAny_bind (iter_intList hl fun s₂ e st hfp hlI=>?_);subst e;refine wpAny_bind (wpAny_newObj_type ?_);have hsz:(intItems xs).size=xs.size:=by simp[intItems]
 have W:=Walks.list (prog:=P0) (w:=w) (A:=A.in1) hh z.heap.objs.size l hlI (intItems xs);have hSf:(z.heap.push { cls:=.type "list_iterator",data:=.fields #[.ref l,.int 0 0] }).objs.size∉[z.heap.objs.size,l]:=fun hm=>Nat.lt_irrefl _ (hfp _ hm)
 rw[q0];refine wpAny_pure ⟨plainId_quiet F.plain_min_loop _,Az W _ (CmpOf.ints_lt (numAt xs) (fun _ _=>intItems_at)) _ hSf d (W.frame _ _ _ st fun b _ o e=>Heap.get?_push_of_some _ e) (Heap.get?_push_size _ rfl) (fun hn v h' tk hP hk=>?_) (fun hn h' tk hk=>?_)⟩
 . refine h1 (by rw[<- hsz];exact hn) v h' tk (by rw[<- hsz];exact hP) (old_kept fun b o hbw e=>hk b o hbw (Nat.ne_of_lt (Heap.lt_size e)) (Heap.get?_push_of_some _ e))
 . exact h0 (by rw[<- hsz];exact hn) h' tk (old_kept fun b o hbw e=>hk b o hbw (Nat.ne_of_lt (Heap.lt_size e)) (Heap.get?_push_of_some _ e))
end
end PySem
namespace L2
open PySem PySem.Spec PyProof.Rows
def N7(K:W.Frag)(tl:TE):TE:=fun σ H Q=>tl σ H fun x H1=>∃(p:Addr)(ns:List Int),x = .ref p/\SqL K H1 p (ns.map V.int)/\(ns=[]->Q .non H1)/\∀ M,M∈ns->(∀ a∈ns,M<=a)->Q (.int M) H1
theorem J8 {X:Cx} {p cpos kp dp:Pos} {j:Nat} {l:Expr} {tl:TE} (hc:X.calm=true) (hl:PE X l tl) (hm:X.mg "min"=none) (hg:X.env.scope.names.lookup ("min":Str)=some .globalImplicit:=by kernel_rfl)
  (he:starEach [l] X.env=(false,eval l X.env):: starEach [] X.env:=by rfl):
  PE X (.Call (.Name "min" p) [l] [⟨some "default",.Constant .none j dp,kp⟩] cpos) (N7 X.K tl):=by
 intro pins s σ H Q I h;refine wpAny_Call_Name_kw (j7 I hg hm Bt.min ?_ (by decide) (by decide));refine callWith_kw ?_ (by rw[he];rfl) (by rw[he];rfl) rfl rfl;have h':vH tl qC σ H (fun vs H1=>match vs with | [x]=>∃(p:Addr)(ns:List Int),x = .ref p/\SqL X.K H1 p (ns.map V.int)/\(ns=[]->Q .non H1)/\∀ M,M∈ns->(∀ a∈ns,M<=a)->Q (.int M) H1|_=>False):=h;refine thn ((aa hl aj he) cpos pins s σ H _ I h') fun us s1 ⟨vs,H1,I1,r1,q1⟩=>?_
 obtain⟨x,rfl⟩:∃ x,vs=[x]:=by
  match vs,q1 with
  |[x],_=>exact⟨x,rfl⟩
 obtain⟨a,ns,rfl,hp,q0,q⟩:=q1;obtain⟨u,rfl,ru⟩:=vals1 r1;cases ru;refine kws_cons (thn (bK pins s1 σ H1 (fun x H2=>x = .non /\ H2=H1) I1 ⟨rfl,rfl⟩) fun dv s2 ⟨x,H2,I2,r2,ex,eH⟩=>kws_nil ?_);subst ex eH;cases r2;have I1:=I2;obtain⟨its,rv,pl,hz⟩:=I1.list hp;have hi:=intsAre_of rv;have hh:X.A.handled=none:=I1.ok.hd hc;obtain⟨xs,e⟩:=hi.allInts.items
 have hns:ns=xs.toList.map (·.1):=by
  rw[<- hi.numsOf,<- nums_intItems,<- e]
 have hlen:ns.length=xs.size:=by rw[hns,qlm,Array.length_toList]
 have hl:=pl.isList;rw[e]at hl;refine Dn hh hl (fun hn v h' tk hv hk=>?_) (fun hn h' tk hk=>?_)
 . obtain⟨t,rfl⟩:=intItems_at hv
   obtain⟨h1,h2⟩:=argBest_lt (numAt xs) (xs.size - 1);refine⟨.int _,_,I1.kept (t':=tk) hk,⟨t,rfl⟩,q _ ?_ fun b hb=>?_⟩
   . rw[hns,numAt_eq];exact getD_mem (by rw[qlm,Array.length_toList];omega)
   . rw[hns]at hb
     obtain⟨m,hm,rfl⟩:=mem_getD hb;rw[qlm,Array.length_toList]at hm;rw[<- numAt_eq];exact h2 m (by omega)
 . exact⟨.non,_,I1.kept (t':=tk) hk,rfl,q0 (List.eq_nil_of_length_eq_zero (by omega))⟩
theorem Ba{X:Cx}:OpR X (binaryOp .Mult) (fun x y H Q=>∃ z n,x = .str z/\y = .int n/\z.length<=1000/\-1000<=n/\n<=1000/\Q (.str (Txt.mul z n)) H):=by
 intro pins s σ H x y v u Q I rx ry h;obtain⟨z,n,rfl,rfl,hz,h1,h2,q⟩:=h;obtain⟨t,rfl⟩:=rx;obtain⟨t',rfl⟩:=ry;exact SB.mul (mulOk_of 1000 1000 hz h2 (by omega) (by decide) (by decide)) fun t' k=>⟨.str _,H,I.tok _,⟨t',rfl⟩,q⟩
theorem bits_fit{a n:Int}(ha:a.natAbs<2 ^ 1024)(hn:n<=1000000):(Builtin.Int.intBits a:Int)+n<=2 ^ 27:=by
 have h:Builtin.Int.intBits a<=1024:=intBits_le ha;omega
def tQ(i j:Int):Prop:=0<=j/\j<=1000000/\i.natAbs<2 ^ 1024
theorem ji{X:Cx}:OpR X (binaryOp .LShift) (rI tQ fun i j=>.int (i * 2 ^ j.toNat)):=opI fun _ _ _ _ _ _ _ hc q=>lshift_int hc.1 (bits_fit hc.2.2 hc.2.1) q
theorem Do{X:Cx}:MtR X "int.bit_length" (fun x vs H Q=>∃ i,x = .int i/\vs=[]/\Q (.int (Builtin.Int.intBits i)) H):=by
 intro pins s σ H y vs v us Q I ry r h;obtain⟨i,rfl,rfl,q⟩:=h;obtain⟨t,rfl⟩:=ry;cases r;exact call_int_bit_length ⟨.int _,H,I.tok _,⟨_,rfl⟩,q⟩
end L2
namespace L2
open PySem
variable{X:Cx}
end L2
namespace L2
open PySem PyProof.Rows
variable{X:Cx}
end L2
namespace PySem
open Sem (wp)
open Builtin
open AutoSeq1 (wpAny_loadPart')
theorem vB(l:Addr)(its:List Value)(n:Nat)(dd:Option Addr)(sl:Array (Option Value))(k:Int)(u:Tok)(h1:2<=k)(h2:k<2 ^ 63)(hne:its.toArray.isEmpty=false)(hz:its.toArray.size * k.toNat<=sizeLine):
  Meets (Builtin.«tuple.__mul__» ⟨[.ref l,.int k u],[]⟩) (fun _ R s=>s.heap.get? l=some { cls:=.type "tuple",dict:=dd,data:=.seq its.toArray n,slots:=sl }/\R (.ok (.ret (Value.ref s.heap.objs.size))) { s with heap:=s.heap.push { cls:=Value.type "tuple",data:=Data.seq (List.replicate k.toNat its).flatten.toArray },toks:=s.toks }):=
 .of_wp fun prog w A R s h=>by
  obtain⟨hp,g,d,tk,os⟩:=s;obtain⟨hl,h⟩:=h;have c1:(k < -(2 ^ 63) || k ≥ 2 ^ 63)=false:=by simp;omega
  have c2:(its.toArray.isEmpty || k == 1)=false:=by rw[hne];simp;omega
  have c3:(k<=0 || its.toArray.isEmpty)=false:=by rw[hne];simp;omega
  have hzi:((its.toArray.size:Int) * k)=((its.toArray.size * k.toNat:Nat):Int):=by
   have e:k=((k.toNat:Nat):Int):=by omega
   conv=>lhs;rw[e]
   rw[<- Int.natCast_mul]
  have hsl:(sizeLine:Nat)<=(2 ^ 63 - 1) / 8:=by decide
  have e63:((2:Int) ^ 63 - 1) / 8=(((2 ^ 63 - 1) / 8:Nat):Int):=by decide
  have c4:decide ((its.toArray.size:Int) * k > (2 ^ 63 - 1) / 8)=false:=qdf (by rw[hzi,e63];omega)
  wp_walk using wpAny_loadPart' hl
  refine wpAny_ite_false (by rw[c1];rfl) ?_
  wp_walk using wpAny_loadPart' hl
  refine wpAny_ite_false (by rw[c2];rfl) ?_
  wp_walk using wpAny_loadPart' hl
  refine wpAny_ite_false (by rw[c3];rfl) ?_
  wp_walk using wpAny_loadPart' hl
  refine wpAny_ite_false c4 ?_
  wp_walk using wpAny_loadPart' hl
  have c5:Tuple.tupleTooMany ((its.toArray.size:Int) * k)=false:=by
   unfold Tuple.tupleTooMany;rw[hzi];exact qdf (by omega)
  refine wpAny_ite_false (by rw[c5];rfl) ?_
  wp_walk using wpAny_loadPart' hl
  have f0:List.foldl (fun x1 x2=>x1++x2) #[] (List.replicate k.toNat its.toArray)=(List.replicate k.toNat its).flatten.toArray:=by
   have:=L2.foldl_rep its k.toNat [];rw[List.nil_append]at this;exact this
  rw[f0];refine wpAny_ite_false (qdf (by rw[List.size_toArray,L2.len_rep,Nat.mul_comm];rw[List.size_toArray]at hz;omega)) ?_
  wp_walk using wpAny_loadPart' hl
  exact⟨_,rfl,h⟩
theorem qJ:fillsNumberSlot (.type "tuple") "mul"=pure false :=
 fillsNumberSlot_seq (id := "tuple.__mul__") (r:=some (.builtin "tuple.__rmul__")) F.slot_tuple_mul.lookup (by decide +kernel) F.slot_tuple_rmul.lookup (by decide +kernel)
theorem wI:seqRepeat? (.type "tuple")=pure (some (.builtin "tuple.__mul__")):=by
 unfold seqRepeat?;rw[seqSlot_of (T := "tuple") (name := "__mul__") (id := "tuple.__mul__") F.slot_tuple_mul.lookup (by decide +kernel),seqSlot_of (T := "tuple") (name := "__rmul__") (id := "tuple.__rmul__") F.slot_tuple_rmul.lookup (by decide +kernel)]
 rfl
theorem tR(a:Int)(t:Tok)(l:Addr)(items:Array Value)(n:Nat)(dd:Option Addr)(sl:Array (Option Value)):
  Meets (Builtin.«int.__rmul__» ⟨[.int a t,.ref l],[]⟩) (fun _ R s=>s.heap.get? l=some { cls:=.type "tuple",dict:=dd,data:=.seq items n,slots:=sl }/\R (.ok (.ret Value.notImplemented)) s):=
 .of_wp fun prog w A R s h=>by obtain⟨hp,g,d,tk,os⟩:=s;obtain⟨hl,h⟩:=h;wp_walk;exact⟨_,rfl,h⟩
end PySem
namespace L2
open PySem PyProof.Rows
variable{X:Cx}
inductive rRepT(K:W.Frag)(x:V)(y:V)(H:Hp)(Q:VK):Prop
 |mk (a:Addr) (k:Int) (xs:List V) (_:x = .ref a) (_:y = .int k) (_:SqT K H a xs) (_:xs≠[]) (_:2<=k) (_:k<2 ^ 63) (_:xs.length * k.toNat<=sizeLine) (_:∀ p,H p=none->Q (.ref p) (upd H p (.tup (List.replicate k.toNat xs).flatten)))
theorem J9:OpR X (binaryOp .Mult) (rRepT X.K):=by
 intro pins s σ H x y v u Q I rx ry h;obtain⟨a,k,xs,rfl,rfl,ha,hne,h1,h2,hz,q⟩:=h;cases rx;obtain⟨t,rfl⟩:=ry;obtain⟨its,r,p1,hl⟩:=I.tuple ha;have hlen:its.length=xs.length:=r.length.symm;have hi:its≠[]:=fun z=>hne (r.nil_iff.mp z)
 obtain⟨⟨cls,dd,data,sl⟩,ho,hc,n,hd⟩:=id p1;simp only at hc hd;subst hc hd;have hz':its.toArray.size * k.toNat<=sizeLine:=by rw[List.size_toArray,hlen];exact hz
 refine wpAny_binaryOp_repeat_ref (T := "tuple") (U := "int") (by decide) ⟨_,ho,rfl⟩ (fun s'=>typeIs_int s' k t) qJ F.fills_int_mul F.slot_int_rmul wI F.slot_int_index.lookup
  (call_meets F.slot_int_rmul (typeIs_int s k t) F.entry_int_rmul (F.args_int_rmul_2 _ _) (tR k t a its.toArray n dd sl)
   ⟨ho,rfl,⟨_,ho,rfl⟩,call_meets F.slot_tuple_mul ⟨_,ho,rfl⟩ F.entry_tuple_mul (F.args_tuple_mul_2 _ _) (vB a its n dd sl k t h1 h2 (by cases its with
    |nil=>exact absurd rfl hi
    |cons x r=>rfl) hz') ⟨ho,?_⟩⟩)
 refine⟨.ref s.heap.objs.size,_,I.laid (t':=s.toks) (o:=.tup (List.replicate k.toNat xs).flatten) (fun b ob q=>Heap.get?_push_of_some _ q) (qnr _) ?_,rfl,q _ (I.hok.fresh (qnr _))⟩;exact⟨by rw[len_rep,Nat.mul_comm];exact hz,_,r.rep k.toNat,IsTupP.new _ _⟩
end L2
namespace L2
open PySem PyProof.Rows
variable{X:Cx}
end L2
namespace PySem
open AutoSeq1 (wpAny_loadPart')
section
variable{P:Program}{w:World}{A:Around}{E:Value->Shared->Prop}{z:Shared}
end
end PySem
namespace L2
open PySem PySem.Spec PyProof.Rows
section
variable{K:W.Frag}{g:TG}{σ:St}{H:Hp}{ix:List (Option Nat)}{tt:TT}{te:TE}{Q:VK}
end
theorem all_strs(ns ms:List Str):((List.range (min ns.length ms.length)).all (fun j=>ns.getD j ⟨#[]⟩ == ms.getD j ⟨#[]⟩) && ns.length == ms.length)=decide (ns=ms):=by
 by_cases h:ns=ms
 . subst h
   rw[qdt rfl];simp
 . rw[qdf h]
   cases hl:(ns.length == ms.length)with
   |false=>simp
   | true =>
    have hl:ns.length=ms.length:=by simpa using hl
    rw[Bool.and_true];refine Bool.eq_false_iff.mpr fun z=>h (List.ext_getElem hl fun j h1 h2=>?_)
    have:=List.all_eq_true.mp z j (List.mem_range.mpr (by omega));have this:ns.getD j ⟨#[]⟩=ms.getD j ⟨#[]⟩:=by simpa using this
    rw[List.getD,List.getD,List.getElem?_eq_getElem h1,List.getElem?_eq_getElem h2]at this;exact this
theorem yF{us:List Value}{ns:List Str}(r:Vals (ns.map V.str) us):us.length=ns.length/\∀(j:Nat)(h:j<us.length),∃ t,us[j] = .str (ns.getD j ⟨#[]⟩) t:=by
 have hl:us.length=ns.length:=by
  have:=r.length;rw[qlm]at this;exact this.symm
 refine⟨hl,fun j h=>?_⟩;have hj:j<ns.length:=by omega
 obtain⟨u,hu,ru⟩:=r.get (i:=j) (x:=V.str ns[j]) (by rw[qgm,List.getElem?_eq_getElem hj];rfl);obtain⟨t,rfl⟩:=ru;refine⟨t,?_⟩;rw[List.getElem?_eq_getElem h]at hu;rw[qsi hu,List.getD,List.getElem?_eq_getElem hj]
 rfl
inductive rNeTN(K:W.Frag)(x:V)(y:V)(H:Hp)(Q:VK):Prop
 |mk (a b:Addr) (ns ms:List Str) (_:x = .ref a) (_:y = .ref b) (_:SqT K H a (ns.map V.str)) (_:SqT K H b (ms.map V.str)) (_:Q (.bl (!decide (ns=ms))) H)
theorem yG{X:Cx}(hu:X.A.units<cLine):OpR X (compareOp .NotEq) (rNeTN X.K):=by
 intro pins s σ H x y v u Q I rx ry h;obtain⟨a,b,ns,ms,rfl,rfl,ha,hb,q⟩:=h;cases rx;cases ry;obtain⟨its,r1,p1,_⟩:=I.tuple ha;obtain⟨its2,r2,p2,_⟩:=I.tuple hb;obtain⟨l1,i1⟩:=yF r1;obtain⟨l2,i2⟩:=yF r2;refine SeqAt.RcNeAt.tuples (e:=fun j=>ns.getD j ⟨#[]⟩ == ms.getD j ⟨#[]⟩) p1 p2 hu (fun j h1 h2=>?_) _ _ _ _ ?_
 . obtain⟨t1,e1⟩:=i1 j (by simpa using h1)
   obtain⟨t2,e2⟩:=i2 j (by simpa using h2);have e1':its.toArray[j] = .str (ns.getD j ⟨#[]⟩) t1:=by simpa using e1
   have e2':its2.toArray[j] = .str (ms.getD j ⟨#[]⟩) t2:=by simpa using e2
   rw[e1',e2'];exact SeqAt.EqAt.str_str _ _ _ _
 . rw[show its.toArray.size=ns.length by simpa using l1,show its2.toArray.size=ms.length by simpa using l2,all_strs]
   exact⟨.bl (!decide (ns=ms)),H,I,rfl,q⟩
end L2
namespace L2
open PySem PyProof.Rows
variable{X:Cx}
end L2
namespace L2
open PySem PyProof.Rows
variable{X:Cx}
end L2
namespace L2
open PySem PySem.Spec PyProof.Rows
variable{X:Cx}
end L2
namespace L2
open PySem PySem.Spec PyProof.Rows
inductive rEqNil(K:W.Frag)(f:Bool->Bool)(x:V)(y:V)(H:Hp)(Q:VK):Prop
 |mk (a b:Addr) (xs:List V) (_:x = .ref a) (_:y = .ref b) (_:SqL K H a xs) (_:SqL K H b []) (_:Q (.bl (f xs.isEmpty)) H)
theorem qK{X:Cx}(hu:X.A.units<cLine):OpR X (compareOp .Eq) (rEqNil X.K id):=by
 intro pins s σ H x y v u Q I rx ry h;obtain⟨a,b,xs,rfl,rfl,ha,hb,q⟩:=h;cases rx;cases ry;obtain⟨its,r1,p1,_⟩:=I.list ha;obtain⟨its2,r2,p2,_⟩:=I.list hb;cases r2;cases r1 with
 | nil =>
  refine SeqAt.eq_listAt (e:=fun _=>true) p1.isList p2.isList rfl hu (fun j h1 _=>absurd h1 (Nat.not_lt_zero j)) ?_;exact⟨.bl true,H,I,rfl,q⟩
 |cons r t=>exact SeqAt.eq_list_lengthsAt p1.isList p2.isList (by simp) hu ⟨.bl false,H,I,rfl,q⟩
end L2
namespace L2
open PySem PyProof.Rows
variable{X:Cx}
end L2
namespace L2
open PySem PyProof.Rows
variable{X:Cx}
end L2
namespace L2
open PySem PySem.Spec PyProof.Rows
section
variable{X:Cx}{pins:List (Addr×Obj)}{σ:St}{H:Hp}{s:Shared}{a:Addr}{kvs:List (Option Int×V)}{o i:Expr}{td ty:TE}{pos:Pos}
end
theorem us0{P:List Value->Prop}(h:P []):∀ us:List Value,us.length=0->P us
 |[],_=>h
theorem usS{n:Nat}{P:List Value->Prop}(h:∀(a:Value)(us:List Value),us.length=n->P (a::us)):∀ us:List Value,us.length=n+1->P us
 |a::us,e=>h a us (Nat.succ.inj e)
theorem us1{P:List Value->Prop}(h:∀ a,P [a]):∀ us:List Value,us.length=1->P us:=usS fun a=>us0 (P:=fun us=>P (a::us)) (h a)
theorem us2{P:List Value->Prop}(h:∀ a b,P [a,b]):∀ us:List Value,us.length=2->P us:=usS fun a=>us1 (P:=fun us=>P (a::us)) (h a)
theorem us3{P:List Value->Prop}(h:∀ a b c,P [a,b,c]):∀ us:List Value,us.length=3->P us:=usS fun a=>us2 (P:=fun us=>P (a::us)) (h a)
theorem us4{P:List Value->Prop}(h:∀ a b c d,P [a,b,c,d]):∀ us:List Value,us.length=4->P us:=usS fun a=>us3 (P:=fun us=>P (a::us)) (h a)
end L2
namespace L2
open PySem PySem.Spec PyProof.Rows
section
variable{P:Program}{w:World}{K:W.Frag}{mg:Str->Option Value}{base:Heap}{N:List Str}{qual:Str}{scope:Scope}{f:Addr}{cd:Value}{A:Around}{outer:List Env}{s:Shared}{H:Hp}{E:XK}
end
section
variable{X:Cx}{E:XK}{pins:List (Addr×Obj)}{scope:Scope}{cl:List (Str×Addr)}{C:Addr}{N':List Str}{fp:List Addr}{s:Shared}{H:Hp}
end
section
variable{X:Cx}{E:XK}{sc:Scope}{N N':List Str}{scope:Scope}{ix:List (Option Nat)}{tg iter elt:Expr}{ifs:List Expr}{pos:Pos}{wi:TI}{g:TG}{tt:TT}{te:TE}
end
end L2
namespace L2
open PySem PySem.Spec PyProof.Rows
section
variable{X:Cx}{CX:CXT}{k:Nat}{f C:Addr}{fd:FuncData}{ps:List Str}{sp:Sp}{E:XK}{x m:Str}{p pos apos:Pos}{e o:Expr}{es:List Expr}{ta:TE}{t:TA}
theorem Jo(M:Mk X.K C f)(F:FnOk X.prog X.w X.K X.mg X.base CX k f fd ps sp)(hr:Room (k+1) X.A)(hm:X.mg x=some (.ref C))(hb:Binds X.K fd ps [])(hx:fK CX X E)(ha:PA X (e::es) t)
  (hg:X.env.scope.names.lookup x=some .globalImplicit:=by kernel_rfl) (hdb:(x == ("__debug__":Str))=false:=by kernel_rfl) (he:starEach (e::es) X.env=(false,eval e X.env):: starEach es X.env:=by rfl) (hpl:(backTo pos (starEach es X.env)).any (·.1)=false:=by rfl):
  PE X (.Call (.Name x p) (e::es) [] pos) (vI C sp [] E t):=JV M F hr hg hm hb .nil hx ha hdb he hpl
end
end L2
namespace L2
open PySem PyProof.Rows
variable{X:Cx}
end L2
namespace L2
open PySem PySem.Spec PyProof.Rows
variable{X:Cx}
def N8(K:W.Frag):List V->Hp->VK->Prop:=fun xs H Q=>∃(p:Addr)(ns:List Int),xs=[.ref p]/\SqT K H p (ns.map V.int)/\0<ns.length/\∀ M,M∈ns->(∀ a∈ns,M<=a)->Q (.int M) H
theorem Dp(hc:X.calm=true):eG X (.builtin "min") (N8 X.K):=by
 intro pins s σ H xs us Q I r h;obtain⟨p,ns,rfl,hp,hne,q⟩:=h;obtain⟨u,rfl,ru⟩:=vals1 r;cases ru;obtain⟨its,rv,pl,hz⟩:=I.tuple hp;have hi:=intsAre_of rv;have hh:X.A.handled=none:=I.ok.hd hc;obtain⟨xs,e⟩:=hi.allInts.items;have hns:ns=xs.toList.map (·.1):=by rw[<- hi.numsOf,<- nums_intItems,<- e]
 have hsz:0<xs.size:=by
  have h3:=hne;rw[hns,qlm,Array.length_toList]at h3;exact h3
 have hl:s.heap.IsTuple p its.toArray:=pl;rw[e]at hl
 have hlt:p<s.heap.objs.size:=by
  obtain⟨_,e1,_⟩:=hl;exact Heap.lt_size e1
 refine call_min_walk (wpAny_pyIter_tuple hl ?_);refine⟨_,_,_,_,_,_,_,rfl,Walks.tuple (A:=X.A.in1) hh s.heap.objs.size p (Nat.ne_of_lt hlt) (intItems xs),⟨⟨_,Heap.get?_push_size _ rfl,rfl,rfl⟩,hl.on fun o q=>Heap.get?_push_of_some _ q⟩,fun b hb=>?_,by simpa[intItems]using hsz,CmpOf.ints_lt (numAt xs) (fun _ _=>intItems_at),fun v h' tk hP hk=>?_⟩
 . show b<(s.heap.push _).objs.size
   rw[Heap.size_push];rcases List.mem_cons.mp hb with rfl|hb
   . exact Nat.lt_succ_self _
   . rw[List.mem_singleton.mp hb]
     exact Nat.lt_succ_of_lt hlt
 have hv:(intItems xs)[argBest (fun i j=>decide (numAt xs i<numAt xs j)) (xs.size - 1)]? = some v:=by simpa[intItems]using hP
 have hk':∀ b o,s.heap.get? b=some o->h'.get? b=some o:=fun b o e1=>hk b o (fun z=>by
  rw[List.mem_singleton.mp z]at e1
  exact absurd (Heap.lt_size e1) (Nat.lt_irrefl _)) (Heap.get?_push_of_some _ e1)
 obtain⟨t,rfl⟩:=intItems_at hv;obtain⟨h1,h2⟩:=argBest_lt (numAt xs) (xs.size - 1);refine⟨.int _,H,I.kept (t':=tk) hk',⟨t,rfl⟩,q _ ?_ fun a ha=>?_⟩
 . rw[hns,numAt_eq]
   exact getD_mem (by rw[qlm,Array.length_toList];omega)
 . rw[hns]at ha
   obtain⟨j,hj,rfl⟩:=mem_getD ha;rw[qlm,Array.length_toList]at hj;rw[<- numAt_eq];exact h2 j (by omega)
end L2
namespace L2
open PySem PyProof.Rows
end L2
namespace PySem
open AutoSeq1 (wpAny_loadPart')
section
variable{P:Program}{w:World}{A:Around}{E:Value->Shared->Prop}{z:Shared}
end
end PySem
namespace L2
open PySem PySem.Spec PyProof.Rows
section
variable{K:W.Frag}{g:TG}{σ:St}{H:Hp}{ix:List (Option Nat)}{tt:TT}{te:TE}{Q:VK}
end
end L2
namespace L2
open PySem PySem.Spec PyProof.Rows
namespace Bt
end Bt
end L2
namespace PySem
open Sem (wp)
open AutoSeq1 (wpAny_loadPart')
namespace RvT
def obj(l:Addr)(i:Int):Obj:={ cls:=.type "reversed",data:=.fields #[.ref l,rawInt i] }
end RvT
section
variable{prog:Program}{w:World}{A:Around}{E:Value->Shared->Prop}{s:Shared}
open PyProof.Rows in
open PyProof.Rows in
open PyProof.Rows in
end
open PyProof.Rows in
section
variable{prog:Program}{w:World}{A:Around}{E:Value->Shared->Prop}{s:Shared}
open PyProof.Rows in
open PyProof.Rows in
open PyProof.Rows in
open PyProof.Rows in
end
end PySem
namespace L2
open PySem PySem.Spec PyProof.Rows
end L2
namespace L2
open PySem PyProof.Rows
variable{X:Cx}{K:W.Frag}
theorem xU:OpR X (compareOp .NotIn) (fun x y H Q=>∃ a b,x = .str a/\y = .str b/\Q (.bl (!Txt.contains b a)) H):=by
 intro pins s σ H x y v u Q I rx ry h;obtain⟨a,b,rfl,rfl,q⟩:=h;obtain⟨t,rfl⟩:=rx;obtain⟨t',rfl⟩:=ry;exact SB.notContains ⟨.bl _,H,I,rfl,q⟩
end L2
namespace L2
open PySem PyProof.Rows
variable{X:Cx}{K:W.Frag}
inductive rCount(K:W.Frag)(y:V)(vs:List V)(H:Hp)(Q:VK):Prop
 |mk (p:Addr) (xs:List V) (x:V) (_:y = .ref p) (_:vs=[x]) (_:SqL K H p xs) (_:eY x=true) (_:xs.all eY=true) (_:∀ j:Nat,j<=xs.length->j=xs.countP (fun z=>eqV z x)->Q (.int j) H)
theorem Bb{x:V}{xs:List V}{us:List Value}(r:Vals xs us)(f:xs.all eY=true):us.countP (eqU x)=xs.countP (fun z=>eqV z x):=by
 induction r with
 |nil=>rfl
 | @cons y v ys vs rv t ih =>
  rw[List.all_cons,Bool.and_eq_true]at f;rw[List.countP_cons,List.countP_cons,ih f.2,rK rv f.1]
theorem Gv:MtR X "list.count" (rCount X.K):=by
 intro pins s σ H y vs v us Q I ry r h;obtain⟨p,xs,x,rfl,rfl,hp,fx,fs,q⟩:=h;cases ry;obtain⟨u,rfl,ru⟩:=vals1 r;obtain⟨its,rv,pl,hz⟩:=I.list hp;obtain⟨⟨cls,dd,data,sl⟩,n,ho,hc,hd1,hd2⟩:=pl;simp only at hc hd1 hd2;subst hc hd1 hd2
 refine call_meets PySem.F.slot_list_count ⟨_,ho,rfl⟩ PySem.F.entry_list_count (PySem.F.args_list_count_2 _ _)
  (SeqAt.list_countAt p its.toArray n none sl u (eqU x)) ⟨ho,fun y hy=>ik ru fx rv fs y (by simpa using hy),⟨.int _,H,I.tok _,⟨_,rfl⟩,?_⟩⟩
 have e:its.toArray.toList.countP (eqU x)=xs.countP (fun z=>eqV z x):=by
  rw[<- Bb rv fs]
 rw[e];exact q _ (List.countP_le_length) rfl
end L2
namespace PySem
namespace StB
open SetTable
section
variable{prog:Program}{w:World}{A:Around}{E:Value->Shared->Prop}{s:Shared}
end
end StB
end PySem
namespace PySem
open PyProof.Rows
namespace StB
section
variable{prog:Program}{w:World}{A:Around}{R:Result->Shared->Prop}{I:Addr}{fp wr:List Addr}{G:Array GenState->Array GenState->Prop}{n:Nat}{P:Nat->Value->Prop}{St:Nat->Shared->Prop}
end
section
variable{prog:Program}{w:World}{A:Around}{E:Value->Shared->Prop}{s:Shared}
end
end StB
end PySem
namespace PySem
open PyProof.Rows
namespace StB
def It(h:Heap)(I:Addr)(first:Value)(i:Nat)(S:Addr)(n ep:Nat):Prop:=∃ o,h.get? I=some o/\o.cls = .type "set_iterator"/\o.data = .fields #[first,rawInt (i:Int),.ref S,rawInt (n:Int),rawInt (ep:Int)]
section
variable{prog:Program}{w:World}{A:Around}{E:Value->Shared->Prop}{s:Shared}
end
end StB
end PySem
namespace PySem
open PyProof.Rows
namespace StB
section
variable{prog:Program}{w:World}{A:Around}{E:Value->Shared->Prop}{s:Shared}
open SetTable in
end
end StB
end PySem
namespace PySem
open PyProof.Rows
namespace StB
section
variable{prog:Program}{w:World}{A:Around}{E:Value->Shared->Prop}{s:Shared}
end
end StB
end PySem
namespace PySem
open PyProof.Rows
namespace StB
section
variable{prog:Program}{w:World}{A:Around}{E:Value->Shared->Prop}{s:Shared}
end
end StB
end PySem
namespace PySem
open PyProof.Rows
open Sem (wp)
namespace StB
section
variable{prog:Program}{w:World}{A:Around}{E:Value->Shared->Prop}{s:Shared}
end
end StB
end PySem
namespace L2
open PySem PySem.Spec PyProof.Rows
namespace Bt
end Bt
end L2
namespace PySem
open PyProof.Rows
namespace StB
section
variable{prog:Program}{w:World}{A:Around}{E:Value->Shared->Prop}{s:Shared}
end
end StB
end PySem
namespace L2
open PySem PySem.Spec PyProof.Rows
end L2
namespace L2
open PySem PySem.Spec PyProof.Rows
variable{X:Cx}
end L2
namespace L2
open PySem PySem.Spec PyProof.Rows
end L2
namespace L2
open PySem PySem.Spec PyProof.Rows
variable{X:Cx}
theorem vC:MtR X "str.startswith" (fun x vs H Q=>∃ z y,x = .str z/\vs=[.str y]/\Q (.bl (Txt.startswith z y)) H):=by
 intro pins s σ H x vs v us Q I rx r h;obtain⟨z,y,rfl,rfl,q⟩:=h;obtain⟨t,rfl⟩:=rx;obtain⟨u,rfl,t',rfl⟩:=vals1 r;exact SC.startswith ⟨.bl _,H,I,rfl,q⟩
theorem oN:MtR X "str.strip" (fun x vs H Q=>∃ z y,x = .str z/\vs=[.str y]/\z.length<=sizeLine/\Q (.str (Txt.stripChars z y)) H):=by
 intro pins s σ H x vs v us Q I rx r h;obtain⟨z,y,rfl,rfl,hz,q⟩:=h;obtain⟨t,rfl⟩:=rx;obtain⟨u,rfl,t',rfl⟩:=vals1 r;exact SC.stripChars (fun t' k=>⟨.str _,H,I.tok _,⟨_,rfl⟩,q⟩) hz
theorem Bc:MtR X "str.lstrip" (fun x vs H Q=>∃ z y,x = .str z/\vs=[.str y]/\z.length<=sizeLine/\Q (.str (Txt.lstripChars z y)) H):=by
 intro pins s σ H x vs v us Q I rx r h;obtain⟨z,y,rfl,rfl,hz,q⟩:=h;obtain⟨t,rfl⟩:=rx;obtain⟨u,rfl,t',rfl⟩:=vals1 r;exact SC.lstripChars (fun t' k=>⟨.str _,H,I.tok _,⟨_,rfl⟩,q⟩) hz
theorem uM:∀(l:List (Str×Tok)),Vals (l.map fun p=>V.str p.1) (strValues l)
 |[]=>.nil
 |p::r=>.cons ⟨p.2,rfl⟩ (uM r)
theorem wJ:MtR X "str.split" (fun x vs H Q=>∃ z y,x = .str z/\vs=[.str y]/\¬ y.length=0/\z.length<sizeLine/\(Txt.split z y).length <= sizeLine/\∀ p,H p=none->Q (.ref p) (upd H p (.lst ((Txt.split z y).map V.str)))):=by
 intro pins s σ H x vs v us Q I rx r h;obtain⟨z,y,rfl,rfl,hy,hz,hn,q⟩:=h;obtain⟨t,rfl⟩:=rx;obtain⟨u,rfl,t',rfl⟩:=vals1 r;have hy':(y.length == 0)=false:=by simpa using hy
 have fin:∀(l:List (Str×Tok)) (k:Nat),l.map (·.1)=Txt.split z y->EP X pins σ Q (.ref s.heap.objs.size) { s with toks:=k,heap:=s.heap.push { cls:=.type "list",data:=.seq (strValues l).toArray } }:=fun l k e=>by
  have e2:(l.map fun p=>V.str p.1)=(Txt.split z y).map V.str:=by rw[<- e,List.map_map];rfl
  have rv:=uM l;rw[e2]at rv;exact⟨.ref _,_,I.lnew (t':=k) rv (by rw[qlm];exact hn),rfl,q _ I.fresh⟩
 cases h1:(decide (z.length<y.length) || decide (Builtin.Str.strKind z<Builtin.Str.strKind y))
 . cases hf:(Builtin.Str.occurrences z y 0 z.length (z.length+1)).isEmpty
   . have e1:Txt.split z y=Builtin.Str.partsBetween z (Builtin.Str.occurrences z y 0 z.length (z.length+1)) y.length:=(qnZ (ne_true_of_eq_false h1)).trans (qnZ (ne_true_of_eq_false hf))
     refine call_meets F.slot_str_split (typeIs_str _ _ _) F.entry_str_split (F.args_str_split_2 _ _) (meets_str_split_sep z y t t' h1 hy' hf (Nat.le_of_lt hz) (by rw[<- e1];exact hn)) ?_;show wants _ _ _ { s with toks:=_,heap:=s.heap.push { cls:=.type "list",data:=.seq (strsFrom s.toks (Builtin.Str.partsBetween z (Builtin.Str.occurrences z y 0 z.length (z.length+1)) y.length)).toArray } };rw[strsFrom_eq];exact fin _ _ ((numbered_texts _ _).trans e1.symm)
   . exact call_meets F.slot_str_split (typeIs_str _ _ _) F.entry_str_split (F.args_str_split_2 _ _) (meets_str_split_not_found z y t t' h1 hy' hf)
      (fin [(z,t)] s.toks ((qnZ (ne_true_of_eq_false h1)).trans (qp hf)).symm)
 . exact call_meets F.slot_str_split (typeIs_str _ _ _) F.entry_str_split (F.args_str_split_2 _ _) (meets_str_split_cannot_occur z y t t' h1) (fin [(z,t)] s.toks (qp h1).symm)
def cJ(c:Nat):List Nat->List Nat
 |[]=>[]
 |d::r=>if d=c then []else d::cJ c r
def cu(c:Nat):List Nat->List Nat
 |[]=>[]
 |d::r=>if d=c then r else cu c r
theorem uN{c:Nat}:∀{l:List Nat},(∀ i:Nat,l[i]?≠some c)->cJ c l=l/\cu c l=[]
 |[],_=>⟨rfl,rfl⟩
 | d::r,h=>by
  have h1:¬ d=c:=fun e=>h 0 (by rw[e];rfl)
  obtain⟨e1,e2⟩:=uN (l:=r) fun i=>h (i+1)
  show(if d=c then []else d::cJ c r)=_/\(if d=c then r else cu c r)=_;rw[qnZ h1,qnZ h1,e1,e2];exact⟨rfl,rfl⟩
theorem yH{c:Nat}:∀{l:List Nat}{i:Nat},l[i]? = some c->(∀ k,k<i->l[k]?≠some c)->cJ c l=l.take i/\cu c l=l.drop (i+1)
 |[],i,h,_=>by simp at h
 | d::r,0,h,_=>by
  have e:d=c:=by simpa using h
  show(if d=c then []else d::cJ c r)=_/\(if d=c then r else cu c r)=_;rw[qp e,qp e];exact⟨rfl,rfl⟩
 | d::r,i+1,h,hn=>by
  have h1:¬ d=c:=fun e=>hn 0 (by omega) (by rw[e];rfl)
  obtain⟨e1,e2⟩:=yH (l:=r) (i:=i) h fun k hk=>hn (k+1) (by omega)
  show(if d=c then []else d::cJ c r)=_/\(if d=c then r else cu c r)=_;rw[qnZ h1,qnZ h1,e1,e2];exact⟨rfl,rfl⟩
theorem kj:MtR X "str.partition" (fun x vs H Q=>∃(z y:Str) (c:Nat),x = .str z/\vs=[.str y]/\y=⟨#[c]⟩/\z.length<=sizeLine /\
  ∀ p (b:Str),H p=none->Q (.ref p) (upd H p (.tup [.str ⟨(cJ c z.cps.toList).toArray⟩,.str b,.str ⟨(cu c z.cps.toList).toArray⟩]))):=by
 intro pins s σ H x vs v us Q I rx r h;obtain⟨z,y,c,rfl,rfl,hy,hz,q⟩:=h;subst hy;obtain⟨t,rfl⟩:=rx;obtain⟨u,rfl,t',rfl⟩:=vals1 r
 have mk:∀(l:List Nat)(w:Str),w.cps.toList=l->(⟨l.toArray⟩:Str)=w:=fun l w e=>by
  cases w;rw[<- e]
 refine call_meets F.slot_str_partition (typeIs_str _ _ _) F.entry_str_partition (F.args_str_partition_2 _ _) (meets_str_partition z ⟨#[c]⟩ t t' rfl hz) ?_;rcases StrLaws.occ_head z ⟨#[c]⟩ 1 (qnr 1)with⟨h0,hn⟩|⟨i,rr,h0,hi,hn⟩
 . rw[h0]
   obtain⟨e1,e2⟩:=uN (c:=c) (l:=z.cps.toList) fun j hj=>hn j ((StrLaws.subAt_one z c j).mpr hj)
   have q':=q s.heap.objs.size Str.empty I.fresh;rw[mk (cJ c z.cps.toList) z e1.symm,mk (cu c z.cps.toList) Str.empty (by rw[e2];rfl)]at q';exact⟨.ref _,_,I.laid (o:=.tup [.str z,.str Str.empty,.str Str.empty]) (t':=s.toks+1) (fun b u e=>Heap.get?_push_of_some _ e) (qnr _) ⟨(by show 3<=sizeLine;decide),_,.cons ⟨_,rfl⟩ (.cons ⟨_,rfl⟩ (.cons ⟨_,rfl⟩ .nil)),IsTupP.new _ _⟩,rfl,q'⟩
 . rw[h0]
   have hm:=(StrLaws.subAt_one z c i).mp hi;obtain⟨e1,e2⟩:=yH hm fun k hk e=>hn k hk ((StrLaws.subAt_one z c k).mpr e)
   have q':=q s.heap.objs.size ⟨#[c]⟩ I.fresh
   rw[mk (cJ c z.cps.toList) (Builtin.Str.strSub z 0 i) (by rw[e1,StrLaws.strSub_toList];simp),mk (cu c z.cps.toList) (Builtin.Str.strSub z (i+1) z.length) (by
    rw[e2,StrLaws.strSub_toList]
    exact List.take_of_length_le (by simp[Str.length]))]at q'
   exact⟨.ref _,_,I.laid (o:=.tup [.str (Builtin.Str.strSub z 0 i),.str ⟨#[c]⟩,.str (Builtin.Str.strSub z (i+1) z.length)]) (t':=s.toks+1+1) (fun b u e=>Heap.get?_push_of_some _ e) (qnr _) ⟨(by show 3<=sizeLine;decide),_,.cons ⟨_,rfl⟩ (.cons ⟨_,rfl⟩ (.cons ⟨_,rfl⟩ .nil)),IsTupP.new _ _⟩,rfl,q'⟩
theorem fQ:eG X (.type "str") (fun xs H Q=>∃ i:Int,xs=[.int i]/\i.natAbs.log2<1920/\Q (.str (toString i:String)) H):=by
 intro pins s σ H xs us Q I r h;obtain⟨i,rfl,hi,q⟩:=h;obtain⟨u,rfl,t,rfl⟩:=vals1 r;exact P.str_of_int hi ⟨.str _,H,I.tok _,⟨_,rfl⟩,q⟩
end L2
namespace PySem
open Sem (wp)
def fX(cs:List Nat):Nat:=cs.foldl (fun a c=>a * 10+(c - 48)) 0
theorem m7(p:Nat->Bool){l:List Nat}(h:∀ c∈l,p c=false):(l.reverse.dropWhile p).reverse=l:=by
 have e:l.reverse.dropWhile p=l.reverse:=by
  cases hl:l.reverse with
  |nil=>rfl
  | cons a b =>
   have ha:a∈l:=by
    have:a∈l.reverse:=by rw[hl];exact qms
    simpa using this
   rw[List.dropWhile_cons_of_neg (by rw[h a ha];decide)]
 rw[e,List.reverse_reverse]
theorem lG(p:Nat->Bool){l:List Nat}(h:∀ c∈l,p c=false):l.dropWhile p=l:=by
 cases l with
 |nil=>rfl
 |cons a b=>rw[List.dropWhile_cons_of_neg (by rw[h a qms];decide)]
theorem jG{f:Array Nat×Bool->Nat->Option (Array Nat×Bool)}(hf:∀ ds b c,48<=c->c<=57->f (ds,b) c=some (ds.push (c - 48),true)):∀(cs:List Nat)(ds:Array Nat)(b:Bool),(∀ c∈cs,48<=c/\c<=57)->List.foldlM (m:=Option) f (ds,b) cs=some (ds++(cs.map (· - 48)).toArray,b || !cs.isEmpty)
 |[],ds,b,_=>by simp
 | c::r,ds,b,h=>by
  rw[List.foldlM_cons,hf ds b c (h c qms).1 (h c qms).2];show List.foldlM (m:=Option) f (ds.push (c - 48),true) r=_;rw[jG hf r _ _ fun d hd=>h d (qmm _ hd)];simp
theorem cU{c:Nat}(h1:48<=c)(h2:c<=57):c=48\/c=49\/c=50\/c=51\/c=52\/c=53\/c=54\/c=55\/c=56\/c=57:=by omega
theorem Dq:typeLookup (.type "str") "__int__"=pure none:=by rw[typeLookup_type,builtinLookup_eq_fast];kernel_rfl
theorem xV:typeLookup (.type "str") "__index__"=pure none:=by rw[typeLookup_type,builtinLookup_eq_fast];kernel_rfl
theorem xW:typeLookup (.type "str") "__trunc__"=pure none:=by rw[typeLookup_type,builtinLookup_eq_fast];kernel_rfl
theorem Ka(cs:List Nat):Array.foldl (fun acc d=>acc * 10+d) 0 (#[]++(cs.map (· - 48)).toArray)=fX cs:=by
 unfold fX;simp[List.foldl_map]
theorem tU(x:Str)(u:Tok){c0:Nat}{r:List Nat}(he:x.cps.toList=c0::r)(h0:49<=c0/\c0<=57\/c0=48/\r=[])(hr:∀ c∈r,48<=c/\c<=57)(hl:r.length<600):
  Meets (Builtin.«int.__new__» ⟨[.type "int",.str x u],[]⟩) (Made.int (fX (c0::r):Nat)).spec :=
 Meets.of_wp fun prog w A R s hs=>by
  have hcs:∀ c∈c0::r,48<=c/\c<=57:=fun c hc=>by
   rcases List.mem_cons.mp hc with rfl|hc
   . rcases h0 with h|h <;> omega
   . exact hr c hc
  have ha:x.cps.all (· < 128)=true:=by
   rw[<- Array.all_toList,he,List.all_eq_true];intro c hc;have:=hcs c hc;exact qdt (by omega)
  have hz:(c0::r).takeWhile (· != 0)=c0::r:=by
   have all:∀(l:List Nat),(∀ c∈l,48<=c/\c<=57)->l.takeWhile (· != 0)=l:=by
    intro l
    induction l with
    |nil=>intro _;rfl
    | cons a b ih =>
     intro h;have:=h a qms;rw[List.takeWhile_cons_of_pos (by simp;omega),ih fun c hc=>h c (qmm _ hc)]
   exact all _ hcs
  have hl':(c0::r).length <= 640:=by show r.length+1<=640;omega
  have h6:¬ 6000<r.length+1:=by omega
  have hten:c0=49\/c0=50\/c0=51\/c0=52\/c0=53\/c0=54\/c0=55\/c0=56\/c0=57\/(c0=48/\r=[]):=by
   rcases h0 with h|h
   . omega
   . exact .inr (.inr (.inr (.inr (.inr (.inr (.inr (.inr (.inr h))))))))
  obtain⟨hp,g,d,tk,os⟩:=s;have f1:=F.conv_sub_int;have f2:=F.madeHere_int;have f3:=Dq;have f4:=xV;have f5:=xW;have hT:(⟨hp,g,d,tk,os⟩:Shared).TypeIs (.str x u) "str":=rfl
  repeat (any_goals (first|assumption|wp_step))
  rw[qp ha,he,hz,qp hl']
  repeat (any_goals (first|assumption|wp_step))
  clear hl' hz ha he hT;have key:=Ka (c0::r);generalize hn:fX (c0::r)=n at hs key;rcases hten with rfl|rfl|rfl|rfl|rfl|rfl|rfl|rfl|rfl|⟨rfl,rfl⟩
  rotate_right
  . split
    . rename_i m h
      cases h
    . rename_i h
      cases h
    . rename_i i h
      have e:i=(n:Int):=by
       cases h;rw[<- hn]
       rfl
      subst e;rw[qp (by simp)]
      repeat (any_goals (first|assumption|wp_step))
      all_goals first|exact⟨_,rfl,hs⟩|skip
    . rename_i h
      cases h
  all_goals
   split
   . rename_i m h
     change (match (Option.bind (α:=Array Nat×Bool) (β:=Array Nat) (List.foldlM (m:=Option) (s:=Array Nat×Bool) (α:=Nat) _ ((#[]:Array Nat),false) (((_:List Nat).reverse.dropWhile _).reverse)) _)with|none=>_|some ds=>_)=_ at h
     rw[m7 _ (fun c hc=>by
        rcases cU (hcs c hc).1 (hcs c hc).2 with rfl|rfl|rfl|rfl|rfl|rfl|rfl|rfl|rfl|rfl <;> rfl),lG _ (fun c hc=>by
        rcases cU (hcs c hc).1 (hcs c hc).2 with rfl|rfl|rfl|rfl|rfl|rfl|rfl|rfl|rfl|rfl <;> rfl),jG (fun ds b c h1 h2=>by
        rcases cU h1 h2 with rfl|rfl|rfl|rfl|rfl|rfl|rfl|rfl|rfl|rfl <;> rfl) _ _ _ hcs]at h
     simp[h6]at h
   . rename_i h
     change (match (Option.bind (α:=Array Nat×Bool) (β:=Array Nat) (List.foldlM (m:=Option) (s:=Array Nat×Bool) (α:=Nat) _ ((#[]:Array Nat),false) (((_:List Nat).reverse.dropWhile _).reverse)) _)with|none=>_|some ds=>_)=_ at h
     rw[m7 _ (fun c hc=>by
        rcases cU (hcs c hc).1 (hcs c hc).2 with rfl|rfl|rfl|rfl|rfl|rfl|rfl|rfl|rfl|rfl <;> rfl),lG _ (fun c hc=>by
        rcases cU (hcs c hc).1 (hcs c hc).2 with rfl|rfl|rfl|rfl|rfl|rfl|rfl|rfl|rfl|rfl <;> rfl),jG (fun ds b c h1 h2=>by
        rcases cU h1 h2 with rfl|rfl|rfl|rfl|rfl|rfl|rfl|rfl|rfl|rfl <;> rfl) _ _ _ hcs]at h
     simp[h6]at h
   . rename_i i h
     change (match (Option.bind (α:=Array Nat×Bool) (β:=Array Nat) (List.foldlM (m:=Option) (s:=Array Nat×Bool) (α:=Nat) _ ((#[]:Array Nat),false) (((_:List Nat).reverse.dropWhile _).reverse)) _)with|none=>_|some ds=>_)=_ at h
     rw[m7 _ (fun c hc=>by
        rcases cU (hcs c hc).1 (hcs c hc).2 with rfl|rfl|rfl|rfl|rfl|rfl|rfl|rfl|rfl|rfl <;> rfl),lG _ (fun c hc=>by
        rcases cU (hcs c hc).1 (hcs c hc).2 with rfl|rfl|rfl|rfl|rfl|rfl|rfl|rfl|rfl|rfl <;> rfl),jG (fun ds b c h1 h2=>by
        rcases cU h1 h2 with rfl|rfl|rfl|rfl|rfl|rfl|rfl|rfl|rfl|rfl <;> rfl) _ _ _ hcs]at h
     simp[h6]at h;simp at key;rw[key]at h;subst h;rw[qp (by simp)]
     repeat (any_goals (first|assumption|wp_step))
     all_goals first|exact⟨_,rfl,hs⟩|skip
   . rename_i h
     change (match (Option.bind (α:=Array Nat×Bool) (β:=Array Nat) (List.foldlM (m:=Option) (s:=Array Nat×Bool) (α:=Nat) _ ((#[]:Array Nat),false) (((_:List Nat).reverse.dropWhile _).reverse)) _)with|none=>_|some ds=>_)=_ at h
     rw[m7 _ (fun c hc=>by
        rcases cU (hcs c hc).1 (hcs c hc).2 with rfl|rfl|rfl|rfl|rfl|rfl|rfl|rfl|rfl|rfl <;> rfl),lG _ (fun c hc=>by
        rcases cU (hcs c hc).1 (hcs c hc).2 with rfl|rfl|rfl|rfl|rfl|rfl|rfl|rfl|rfl|rfl <;> rfl),jG (fun ds b c h1 h2=>by
        rcases cU h1 h2 with rfl|rfl|rfl|rfl|rfl|rfl|rfl|rfl|rfl|rfl <;> rfl) _ _ _ hcs]at h
     simp[h6]at h
section
variable{prog:Program}{w:World}{A:Around}{E:Value->Shared->Prop}{s:Shared}
theorem vD{x:Str}{u:Tok}{c0:Nat}{r:List Nat}{Q:Value->Shared->Prop}(he:x.cps.toList=c0::r)(h0:49<=c0/\c0<=57\/c0=48/\r=[])(hr:∀ c∈r,48<=c/\c<=57)(hl:r.length<600)(h:Q (.int (fX (c0::r):Nat) s.toks) { s with toks:=s.toks+1 }):
  wpAny (model prog w) A (call (.type "int") [.str x u]) Q E s :=
 call_int_1 (tU x u he h0 hr hl) (show(Made.int (fX (c0::r):Nat)).post _ s from⟨rfl,h⟩)
end
end PySem
namespace L2
open PySem PySem.Spec PyProof.Rows
theorem Dr{X:Cx}:eG X (.type "int") (fun xs H Q=>∃(x:Str) (c0:Nat) (r:List Nat),xs=[.str x]/\x.cps.toList=c0::r/\(49<=c0/\c0<=57\/c0=48/\r=[])/\(∀ c∈r,48<=c/\c<=57)/\r.length<600/\Q (.int (fX (c0::r):Nat)) H):=by
 intro pins s σ H xs us Q I r h;obtain⟨x,c0,r',rfl,he,h0,hr,hl,q⟩:=h;obtain⟨u,rfl,t,rfl⟩:=vals1 r;exact vD he h0 hr hl ⟨.int _,H,I.tok _,⟨_,rfl⟩,q⟩
end L2
namespace L2
open PySem PySem.Spec PyProof.Rows
def Mj(X:Cx)(tf:TE)(ta:TA):TE:=fun σ H Q=>tf σ H fun v H1=>∃(f:Addr)(CX:CXT)(k:Nat)(fd:FuncData)(ps:List Str)(sp:Sp)(E:XK),v = .ref f/\FnOk X.prog X.w X.K X.mg X.base CX k f fd ps sp/\Room k X.A/\W.keepIn X.K (.ref f)=true/\Binds X.K fd ps []/\fK CX X E /\
 ta σ H1 fun vs H2=>sp vs H2 Q E
theorem m8{X:Cx}{o i e:Expr}{es:List Expr}{p pos:Pos}{tf:TE}{ta:TA}(hf:PE X (.Subscript o i p) tf)(ha:PA X (e::es) ta)
  (he:starEach (e::es) X.env=(false,eval e X.env):: starEach es X.env:=by rfl) (hpl:(backTo pos (starEach es X.env)).any (·.1)=false:=by rfl):
  PE X (.Call (.Subscript o i p) (e::es) [] pos) (Mj X tf ta):=by
 intro pins s σ H Q I h
 have arm:eval (.Call (.Subscript o i p) (e::es) [] pos) X.env=(do
   callWith pos (<- eval (.Subscript o i p) X.env) [] (backTo pos (starEach (e::es) X.env)) (backToKw pos (keywordEach [] X.env))):=rfl
 rw[arm];refine wpAny_bind (thn (hf pins s σ H _ I h) fun u s1 ⟨x,H1,I1,r1,f,CX,k,fd,ps,sp,E,ev,F,hr,hk,hb,hx,q⟩=>?_);subst ev;cases r1;refine W.callWith_K (h₀:=X.base) I1.ok.mod.kin hk (thn (ha pos pins s1 σ H1 _ I1 q) fun us s2 ⟨vs,H2,I2,r,q2⟩=>⟨I2.kIn,?_⟩) he hpl;exact rH (dvs:=[]) (ds:=[]) F hr hb .nil hx I2 r (by rw[List.append_nil];exact q2)
end L2
namespace L2
open PySem PySem.Spec PyProof.Rows
section
variable{M:Model}{A:Around}{E:Value->Shared->Prop}
variable{nm q nm' q':Str}{C N C' N':Addr}{bs bm bs' bm':List Value}{hdct hdct':Bool}{sn sn':List Str}{sub sub':List Value}{ab ab':Bool}{col col':Option Bool}{dd dd':Option Addr}{k0 k1 k2 k3 k5 j0 j1 j2 j3 j5:Option Value}{newId newId':String}
theorem nZ{h:Heap}{g:Array GenState}{d:Drawn}{t:Nat}{os:OsState}{e:Addr}{oe:Obj}{b:Bool}{Q:Bool->Shared->Prop}
  (hC:h.get? C=some (excClassObj nm q C N bs bm hdct sn sub ab col dd k0 k1 k2 k3 k5 newId)) (hM:h.get? C'=some (excClassObj nm' q' C' N' bs' bm' hdct' sn' sub' ab' col' dd' j0 j1 j2 j3 j5 newId')) (he:h.get? e=some oe) (hcls:oe.cls = .ref C)
  (hbase:bm'.contains (.type "BaseException")=true) (hsub:(Value.ref C::bm).contains (.ref C')=b)
  (hq:Q b ⟨h,g,d,t,os⟩):wpAny M A (excMatches (.ref e) (.ref C')) Q E ⟨h,g,d,t,os⟩:=by
 have hcB:(Value.ref C'::bm').contains (.type "BaseException")=true:=by rw[List.contains_cons,hbase,Bool.or_true]
 have f:=tc_notTuple;cases b
 all_goals unfold excMatches
 all_goals repeat (first | (with_reducible refine wpAny_loadPart_at he ?_;rw[hcls])|with_reducible refine wpAny_loadPart_at hM ?_ | (with_reducible refine wpAny_isSubtype_exc hM ?_;rw[hcB]) | (with_reducible refine wpAny_isSubtype_exc hC ?_;rw[hsub])|wp_step)
 all_goals first|exact hq|exact wpAny_pure hq
end
inductive PHs(X:Cx):List ExceptHandler->List (Addr×TS)->Prop
 |nil:PHs X [] []
 | cons {x:Str} {M:Addr} {b₀:Stmt} {suite:List Stmt} {np hpos:Pos} {rest:List ExceptHandler} {ts:TS} {tr:List (Addr×TS)} (hm:X.mg x=some (.ref M)) (hM:catches X.K M=true) (hg:X.env.scope.names.lookup x=some .globalImplicit) (hdb:(x == ("__debug__":Str))=false)
   (hs:∀ e,PSs (X.caught e) (b₀::suite) ts) (hr:PHs X rest tr):PHs X (.ExceptHandler (some (.Name x np)) none (b₀::suite) hpos::rest) ((M,ts):: tr)
def pick(K:W.Frag)(C:Addr)(D:Ends)(σ:St)(H:Hp):List (Addr×TS)->Prop
 |[]=>False
 |(M,ts):: r=>(under K C M=true/\ts D σ H)\/(under K C M=false/\pick K C D σ H r)
def Oa(K:W.Frag)(tb:TSX)(hs:List (Addr×TS)):TS:=fun D σ H=>tb D (fun c _ H1=>∃ C,c = .ref C/\(lV K C).isSome=true/\pick K C D σ H1 hs) σ H
section
variable{X:Cx}{pins:List (Addr×Obj)}{σ:St}
theorem handles{D:Ends}{H1 H2:Hp}{s1 s2:Shared}{a C:Addr}{B h5:Heap}{a0:Value}(I1:Inv X pins σ H1 s1)(hstk:X.stack=X.env::X.outer)(fos:s2.os=s1.os)(fbare:AllBare s2.gens)(fun_:Un (frs X.stack) [] H1 H2 s1.heap s2.heap)(fhok:HOk X.prog X.w H2 s2.heap)
  (hst:∀ b o,s1.heap.get? b=some o->H1 b=none->b∉frs X.stack->B.get? b=some o) (hth:∀ b o,s1.heap.get? b=some o->b∉frs X.stack->∃ o',B.get? b=some o') (htr:∀ b,H2 b≠none->∃ o,s2.heap.get? b=some o/\B.get? b=some o)
  (fl5:Heap.FlyingW B X.stack a (.ref C) a0 h5) (sm:s2.heap.UpToSlots h5) {bm:List Value} (q1:lV X.K C=some bm):
  ∀{hs:List ExceptHandler}{l:List (Addr×TS)},PHs X hs l->pick X.K C D σ H2 l->wpAny (model X.prog X.w) X.A (handleBy (.ref a) X.env hs) (SP X pins D) X.xe { s2 with heap:=h5 }:=by
 intro hs l P;have I5:Inv X pins σ H2 { s2 with heap:=h5 }:=I1.landed hstk fos fbare fun_ fhok hst hth htr fl5 sm;obtain⟨ob,hob,hobc⟩:=fl5.there;have KI:X.K.In h5:=I5.kIn
 induction P with
 |nil=>intro k;exact k.elim
 | @cons x M b₀ suite np hpos rest ts tr hm hM hg hdb hs' hr ih =>
  intro k;refine wpAny_handleBy_cons (codeAny_handlers_test (je (X:=X.caught a) (I5.caught a) hg hm ?_ hdb)) (by intro q;cases q)
  obtain⟨bm',q3,q4⟩:∃ bm,lV X.K M=some bm/\bm.contains (.type "BaseException")=true:=by
   unfold catches at hM;cases e:lV X.K M with
   |none=>rw[e]at hM;cases hM
   |some bm=>rw[e]at hM;exact⟨bm,rfl,hM⟩
  obtain⟨_,_,_,_,_,_,_,_,_,_,_,_,_,_,_,_,oC⟩:=wC KI q1;obtain⟨_,_,_,_,_,_,_,_,_,_,_,_,_,_,_,_,oM⟩:=wC KI q3;have eu:under X.K C M=(Value.ref C::bm).contains (.ref M):=by unfold under;rw[q1];rfl
  rcases k with⟨hu,k⟩|⟨hu,k⟩
  . rw[eu]at hu
    refine nZ oC oM hob hobc q4 hu (codeAny_handlers_suite ?_);refine lands_againW fl5 fun h6 fl6 sm6=>?_
    have I6:Inv X pins σ H2 { s2 with heap:=h6 }:=I1.landed hstk fos fbare fun_ fhok hst hth htr fl6 (sm.trans sm6);refine wpAny_mono (hs' a pins _ _ _ D (I6.caught a) k) (fun f s9 q=>?_) fun _ _ z=>False.elim z
    cases f with
    |next=>obtain⟨σ',H',I9,q⟩:=q;exact⟨_,_,I9.uncaught I1.ok,q⟩
    |brk=>obtain⟨σ',H',I9,q⟩:=q;exact⟨_,_,I9.uncaught I1.ok,q⟩
    |cont=>obtain⟨σ',H',I9,q⟩:=q;exact⟨_,_,I9.uncaught I1.ok,q⟩
    |ret u=>obtain⟨v,σ',H',I9,r,q⟩:=q;exact⟨v,_,_,I9.uncaught I1.ok,r,q⟩
  . rw[eu]at hu
    exact nZ oC oM hob hobc q4 hu (ih k)
theorem yI{body:List Stmt}{tb:TSX}{hs:List ExceptHandler}{l:List (Addr×TS)}{pos:Pos}(hb:LK X body tb)(P:PHs X hs l)(hne:hs≠[]:=by exact List.cons_ne_nil _ _)
  (hstk:X.stack=X.env::X.outer:=by rfl) (hfr:X.env.frame=some X.env.locals:=by rfl):
  PS X (.Try body hs [] [] pos) (Oa X.K tb l):=by
 intro pins s σ H D I h
 obtain⟨h0,hs0,rfl⟩:∃ h0 hs0,hs=h0::hs0:=by
  cases hs with
  |nil=>exact absurd rfl hne
  |cons a b=>exact⟨a,b,rfl⟩
 refine wpAny_Try_except (wpAny_mono (hb pins s σ H D _ I h) (fun f s1 q=>?_) fun e s2 q=>?_)
 . cases f with
   |next=>exact wpAny_execs_nil q
   |ret v=>exact q
   |brk=>exact q
   |cont=>exact q
 obtain⟨H1,s1,I1,a,C,H2,ea,F,C',ec,hu,k⟩:=q;subst ea;cases ec;obtain⟨fos,fbare,fun_,fhok,ffree,B,a0,hfl,hst,hth,htr⟩:=F;have hfrm:X.A.frames=some (X.env::X.outer):=by rw[<- hstk];exact I1.ok.frames
 rw[hstk]at hfl;refine wpAny_looks_onW hfrm hfr hfl fun h4 held4 sm4=>?_
 refine wpAny_landsW held4 fun h5 fl5 sm5=>?_
 rw[<- hstk]at fl5;obtain⟨bm,q1⟩:=Option.isSome_iff_exists.mp hu;exact handles I1 hstk fos fbare fun_ fhok hst hth htr fl5 (sm4.trans sm5) q1 P k
end
end L2
namespace PySem
open PyProof.Rows Builtin.Str
theorem km(c:Nat):(fun d=>(⟨#[c]⟩:Str).cps.contains d)=fun d=>d == c:=by
 funext d
 show(#[c]:Array Nat).contains d=_
 by_cases e:d=c <;> simp[e]
theorem jj(p:Nat->Bool):∀ l:List Nat,l.drop (l.takeWhile p).length=l.dropWhile p
 |[]=>rfl
 | a::r=>by
  by_cases h:p a=true
  . rw[List.takeWhile_cons_of_pos h,List.dropWhile_cons_of_pos h]
    exact jj p r
  . rw[List.takeWhile_cons_of_neg h,List.dropWhile_cons_of_neg h]
    rfl
theorem Ds(p:Nat->Bool):∀ l:List Nat,(l.takeWhile p).length <= l.length
 |[]=>qnr _
 | a::r=>by
  by_cases h:p a=true
  . rw[List.takeWhile_cons_of_pos h]
    have:=Ds p r;show(r.takeWhile p).length+1<=r.length+1;omega
  . rw[List.takeWhile_cons_of_neg h]
    exact qnz _
theorem Gw(x:Str)(c:Nat):(Txt.lstripChars x ⟨#[c]⟩).cps.toList=x.cps.toList.dropWhile (· == c):=by
 unfold Txt.lstripChars;rw[stripBy_eq,StrLaws.strSub_toList];show((x.cps.toList.drop (x.cps.toList.takeWhile (fun d=>(⟨#[c]⟩:Str).cps.contains d)).length).take (x.length - (x.cps.toList.takeWhile (fun d=>(⟨#[c]⟩:Str).cps.contains d)).length))=_;rw[km,jj];refine List.take_of_length_le ?_;rw[<- jj,List.length_drop];have:x.length=x.cps.toList.length:=Array.length_toList.symm;omega
theorem tV(x:Str)(c:Nat):(Txt.stripChars x ⟨#[c]⟩).cps.toList=((x.cps.toList.dropWhile (· == c)).reverse.dropWhile (· == c)).reverse:=by
 unfold Txt.stripChars;rw[stripBy_eq,StrLaws.strSub_toList];have hx:x.length=x.cps.toList.length:=Array.length_toList.symm
 have e:stripLo (fun d=>(⟨#[c]⟩:Str).cps.contains d) true x=(x.cps.toList.takeWhile (fun d=>d == c)).length:=by
  rw[km]
  rfl
 show(x.cps.toList.drop (stripLo (fun d=>(⟨#[c]⟩:Str).cps.contains d) true x)).take ((x.length - ((x.cps.toList.drop (stripLo (fun d=>(⟨#[c]⟩:Str).cps.contains d) true x)).reverse.takeWhile (fun d=>(⟨#[c]⟩:Str).cps.contains d)).length) - stripLo (fun d=>(⟨#[c]⟩:Str).cps.contains d) true x)=_;rw[e,jj,km,<- jj (fun d=>d == c) (x.cps.toList.dropWhile (fun d=>d == c)).reverse,List.drop_reverse,List.reverse_reverse]
 congr 1
 have h1:(x.cps.toList.dropWhile (fun d=>d == c)).length+(x.cps.toList.takeWhile (fun d=>d == c)).length=x.cps.toList.length:=by
  rw[<- jj,List.length_drop];have:=Ds (fun d=>d == c) x.cps.toList;omega
 omega
def eE(c:Nat):List Nat->List (List Nat)
 |[]=>[[]]
 | d::r=>if d=c then []:: eE c r else match eE c r with
  |[]=>[[d]]
  |p::ps=>(d::p):: ps
theorem jk(c:Nat):∀(u v:List Nat),c∉u->eE c (u++v)=match eE c v with
  |[]=>[u]
  |p::ps=>(u++p):: ps
 | [], v,_=>by
  show eE c v=_;cases h:eE c v with
  | nil =>
   cases v with
   |nil=>cases h
   | cons d r =>
    unfold eE at h
    split at h
    . cases h
    . split at h <;> cases h
  |cons p ps=>rfl
 | d::r,v,h=>by
  have h1:¬ d=c:=fun e=>h (e ▸ qms)
  show(if d=c then _ else match eE c (r++v)with | []=>[[d]] | p::ps=>(d::p):: ps)=_;rw[qnZ h1,jk c r v fun z=>h (qmm _ z)];cases eE c v <;> rfl
theorem lW(c:Nat):∀ ps:List Str,ps≠[]->(∀ p∈ps,c∉p.cps.toList)->eE c (Str.join ⟨#[c]⟩ ps).cps.toList=ps.map (·.cps.toList)
 |[],h,_=>absurd rfl h
 | [p],_,h=>by
  show eE c p.cps.toList=[p.cps.toList]
  have:=jk c p.cps.toList [] (h p qms);rw[List.append_nil]at this;rw[this];show [p.cps.toList++[]]=_;rw[List.append_nil]
 | p::q::r,_,h=>by
  have ih:=lW c (q::r) (List.cons_ne_nil _ _) fun z hz=>h z (qmm _ hz)
  show eE c (p++⟨#[c]⟩++Str.join ⟨#[c]⟩ (q::r)).cps.toList=_
  have e:(p++⟨#[c]⟩++Str.join ⟨#[c]⟩ (q::r)).cps.toList=p.cps.toList++(c::(Str.join ⟨#[c]⟩ (q::r)).cps.toList):=by
   show(p.cps ++ #[c]++(Str.join ⟨#[c]⟩ (q::r)).cps).toList=_;simp
  rw[e,jk c _ _ (h p qms)];have e2:eE c (c::(Str.join ⟨#[c]⟩ (q::r)).cps.toList)=[]:: eE c (Str.join ⟨#[c]⟩ (q::r)).cps.toList:=qp rfl;rw[e2,ih];show(p.cps.toList++[]):: _=_;rw[List.append_nil]
  rfl
theorem Kc(x:Str)(c:Nat):(Txt.split x ⟨#[c]⟩).map (·.cps.toList)=eE c x.cps.toList:=by
 have h1:=StrLaws.join_split x ⟨#[c]⟩;have h2:=StrLaws.split_free x c;have h3:=split_pos x ⟨#[c]⟩;have h:=lW c (Txt.split x ⟨#[c]⟩) (fun e=>by rw[e]at h3;exact absurd h3 (by decide)) h2;rw[h1]at h;exact h.symm
end PySem
namespace L2
open PySem PyProof.Rows
theorem Dt{X:Cx}{K:W.Frag}(h:X.K=K:=by rfl):MtR X "list.count" (rCount K):=h ▸ Gv
end L2
namespace L2
open PySem PySem.Spec PyProof.Rows
def Kd:TE:=fun _ _ _=>False
theorem Gx{X:Cx}{e:Expr}:PE X e Kd:=fun _ _ _ _ _ _ h=>h.elim
end L2
namespace L2
open PySem PySem.Spec PyProof.Rows
variable{X:Cx}
inductive rJoinT(K:W.Frag)(x:V)(vs:List V)(H:Hp)(Q:VK):Prop
 |mk (z:Str) (p:Addr) (ys:List Str) (_:x = .str z) (_:vs=[.ref p]) (_:SqT K H p (ys.map V.str)) (_:(ys.map (·.length)).sum+ys.length * z.length<=16777216) (_:Q (.str (Txt.join z ys)) H)
theorem Gy:MtR X "str.join" (rJoinT X.K):=by
 intro pins s σ H x xs v us Q I rx r h;obtain⟨z,p,ys,rfl,rfl,hp,hs,q⟩:=h;obtain⟨t,rfl⟩:=rx;obtain⟨u,rfl,ru⟩:=vals1 r;cases ru;obtain⟨its,rv,pl,hz⟩:=I.tuple hp;exact join_tuple pl (by simpa using lD rv) hs fun t' k=>⟨.str _,H,I.tok k,⟨t',rfl⟩,q⟩
end L2
namespace PySem.ZL
open PySem
abbrev Pn(h:Heap)(z TI TO a:Addr)(f:Bool):Prop :=
 h.get? z=some { cls:=.type "zip",dict:=none,data:=.fields #[rawInt a,.bool f,.bool false,.ref TI,.ref TO],slots:=#[] }
section
variable{prog:Program}{w:World}{A:Around}{E:Value->Shared->Prop}{s:Shared}
structure St(h:Heap)(z TI TO i1 i2 l1 l2 S:Addr)(i:Nat)(xs ys:Array Value):Prop where
 f:(i=0/\IsZip h z TI TO .none)\/∃ a f oa,Pn h z TI TO a f/\h.get? a=some oa/\a≠z/\a≠TO/\a≠i1/\a≠i2/\a≠S
 ti:IsPair h TI (.ref i1) (.ref i2)
 to:∃ a b,IsPair h TO a b
 a1:h.IsListIter i1 l1 i
 a2:h.IsListIter i2 l2 i
 b1:h.IsList l1 xs
 b2:h.IsList l2 ys
end
section
variable{prog:Program}{w:World}{A:Around}{s:Shared}{R:Result->Shared->Prop}{xs ys:Array Value}
end
section
variable{prog:Program}{w:World}{A:Around}{E:Value->Shared->Prop}{s:Shared}{xs ys:Array Value}
end
end PySem.ZL
namespace L2
open PySem PySem.Spec PyProof.Rows
end L2
namespace Mc
open PySem PySem.Spec PyProof.Rows
inductive Op where
 |and|or|thn|same
 deriving DecidableEq
def Op.str:Op->Str
 | .and => "and"
 | .or => "or"
 | .thn => "then"
 | .same => "same"
inductive Tr where
 |nm (x:Str)|yes|no|not (t:Tr)|bin (o:Op) (a b:Tr)
def Tr.tag:Tr->Str
 | .nm _ => "name"
 | .yes => "yes"
 | .no => "no"
 | .not _ => "not"
 | .bin o _ _=>o.str
def Tr.kids:Tr->List Tr
 | .not t=>[t]
 | .bin _ a b=>[a,b]
 |_=>[]
def Tr.depth:Tr->Nat
 | .not t=>t.depth+1
 | .bin _ a b=>max a.depth b.depth+1
 |_=>1
def Tr.size:Tr->Nat
 | .not t=>t.size+1
 | .bin _ a b=>a.size+b.size+1
 |_=>1
def Tr.names:Tr->List Str
 | .nm x=>[x]
 | .not t=>t.names
 | .bin _ a b=>a.names++b.names
 |_=>[]
def Tr.isNm:Tr->Bool
 | .nm _=>true
 |_=>false
theorem Tr.depth_pos(t:Tr):1<=t.depth:=by cases t <;> simp[Tr.depth]
theorem kI(t:Tr):(t.tag=("name":Str))↔t.isNm=true:=by
 cases t with
 |nm x=>simp[Tr.tag,Tr.isNm]
 |yes=>simp only[Tr.tag,Tr.isNm];decide +kernel
 |no=>simp only[Tr.tag,Tr.isNm];decide +kernel
 |not t=>simp only[Tr.tag,Tr.isNm];decide +kernel
 |bin o a b=>cases o <;> (simp only[Tr.tag,Tr.isNm,Op.str];decide +kernel)
def jO(ts:List Tr):Nat:=ts.foldr (fun t d=>max t.depth d) 0
def du(ts:List Tr):Nat:=(ts.map Tr.size).sum
theorem Gz(a b:List Tr):jO (a++b)=max (jO a) (jO b):=by
 induction a with
 |nil=>simp[jO]
 |cons t r ih=>simp only[List.cons_append,jO,List.foldr_cons]at *;rw[ih];omega
theorem uO(t:Tr):t.depth=jO t.kids+1:=by
 cases t <;> simp[Tr.kids,jO,Tr.depth]
theorem rQ:∀ ts:List Tr,ts≠[]->jO ts=jO (ts.flatMap Tr.kids)+1
 | [t],_=>by
  have:=uO t;simp only[List.flatMap_cons,List.flatMap_nil,List.append_nil];show max t.depth 0=_;omega
 | t::u::r,_=>by
  have h1:=rQ (u::r) (by simp);have h2:=uO t;rw[List.flatMap_cons,Gz];show max t.depth (jO (u::r))=_;omega
theorem Du(a b:List Tr):du (a++b)=du a+du b:=by simp[du]
theorem Bd(t:Tr):t.size=du t.kids+1:=by
 cases t <;> simp[Tr.kids,du,Tr.size]
theorem jy(ts:List Tr):du ts=du (ts.flatMap Tr.kids)+ts.length:=by
 induction ts with
 |nil=>rfl
 | cons t r ih =>
  rw[List.flatMap_cons,Du];show t.size+du r=_;have:=Bd t;simp only[List.length_cons];omega
theorem rR(ts:List Tr):ts.length<=du ts:=by rw[jy];omega
def cX(ts:List Tr):List Str:=ts.flatMap Tr.names
theorem Be(t:Tr)(x:Str):x∈t.names↔t = .nm x\/x∈cX t.kids:=by
 cases t with
 | nm y =>
  simp only[Tr.names,Tr.kids,cX,List.flatMap_nil,List.mem_singleton,List.not_mem_nil,or_false,Tr.nm.injEq];exact eq_comm
 |yes=>simp[Tr.names,Tr.kids,cX]
 |no=>simp[Tr.names,Tr.kids,cX]
 |not t=>simp[Tr.names,Tr.kids,cX]
 |bin o a b=>simp[Tr.names,Tr.kids,cX]
theorem oO(ts:List Tr)(x:Str):x∈cX ts↔Tr.nm x∈ts\/x∈cX (ts.flatMap Tr.kids):=by
 induction ts with
 |nil=>simp[cX]
 | cons t r ih =>
  have e1:cX (t::r)=t.names++cX r:=rfl;have e2:cX ((t::r).flatMap Tr.kids)=cX t.kids++cX (r.flatMap Tr.kids):=by simp[cX]
  rw[e1,e2,List.mem_append,List.mem_append,Be,ih,List.mem_cons]
  constructor
  . rintro((h|h) | (h|h))
    . exact .inl (.inl h.symm)
    . exact .inr (.inl h)
    . exact .inl (.inr h)
    . exact .inr (.inr h)
  . rintro((h|h) | (h|h))
    . exact .inl (.inl h.symm)
    . exact .inr (.inl h)
    . exact .inl (.inr h)
    . exact .inr (.inr h)
theorem kJ{α:Type}[DecidableEq α]:∀{a b:List α},a.Nodup->(∀ x∈a,x∈b)->a.length<=b.length
 |[],_,_,_=>qnz _
 | x::r,b,ha,h=>by
  have hx:=h x qms;have h1:=kJ (b:=b.erase x) (List.nodup_cons.mp ha).2 fun y hy=>(List.mem_erase_of_ne (fun e=>by subst e;exact(List.nodup_cons.mp ha).1 hy)).mpr (h y (qmm _ hy))
  have h2:=List.length_erase_of_mem hx;have h3:0<b.length:=List.length_pos_of_mem hx;simp only[List.length_cons];omega
end Mc
namespace Mc
open PySem
abbrev Str.l(x:Str):List Nat:=x.cps.toList
theorem Ke{a b:Str}(h:a.cps.toList=b.cps.toList):a=b:=by
 have e2:a.cps=b.cps:=Array.toList_inj.mp h;cases a;cases b;exact congrArg Str.mk e2
theorem vM(a b:Str):(a++b).cps.toList=a.cps.toList++b.cps.toList:=by
 show(a.cps++b.cps).toList=_;simp
theorem jz(a:Str):a.length=a.cps.toList.length:=by
 show a.cps.size=_;simp
theorem Ml:∀ ys:List Str,(Txt.join (⟨#[]⟩:Str) ys).cps.toList=ys.flatMap (·.cps.toList):=by
 have gen:∀ ys:List Str,(Str.join (⟨#[]⟩:Str) ys).cps.toList=ys.flatMap (·.cps.toList):=by
  intro ys
  induction ys with
  |nil=>rfl
  | cons x r ih =>
   cases r with
   | nil =>
    show x.cps.toList=_;simp
   | cons y q =>
    show(x++(⟨#[]⟩:Str)++Str.join ⟨#[]⟩ (y::q)).cps.toList=_;rw[vM,vM,ih,List.flatMap_cons];simp
 intro ys;show(Builtin.Str.glued _ ys).cps.toList=_;rw[StrLaws.glued_eq_join];exact gen ys
abbrev letters:Str := "abcdefghijklmnopqrstuvwxyz"
theorem Bf(i:Nat)(h:i<26):letters.cps.toList[i]? = some (97+i):=by
 have:∀ i:_root_.Fin 26,letters.cps.toList[i.val]? = some (97+i.val):=by decide +kernel
 exact this ⟨i,h⟩
theorem xX:letters.length=26:=by decide +kernel
structure IsName(y:Str):Prop where
 pos:1<=y.cps.toList.length
 le:y.cps.toList.length<=8
 ok:∀ c∈y.cps.toList,97<=c/\c<=122
end Mc
namespace Mc
open PySem PySem.Spec PyProof.Rows L2
inductive TrAt(H:Hp):V->Tr->Prop where
 |nm {a:Addr} {x:Str}:H a=some (.tup [.str "name",.str x])->TrAt H (.ref a) (.nm x)
 |yes {a:Addr}:H a=some (.tup [.str "yes"])->TrAt H (.ref a) .yes
 |no {a:Addr}:H a=some (.tup [.str "no"])->TrAt H (.ref a) .no
 |not {a:Addr} {v:V} {t:Tr}:H a=some (.tup [.str "not",v])->TrAt H v t->TrAt H (.ref a) (.not t)
 |bin {a:Addr} {o:Op} {v u:V} {t t':Tr}:H a=some (.tup [.str o.str,v,u])->TrAt H v t->TrAt H u t'->TrAt H (.ref a) (.bin o t t')
def Tups(H H':Hp):Prop:=∀ b xs,H b=some (.tup xs)->H' b=some (.tup xs)
theorem Tups.trans{H H1 H2:Hp}(a:Tups H H1)(b:Tups H1 H2):Tups H H2:=fun c o h=>b c o (a c o h)
theorem _root_.L2.Same.tups{H H':Hp}(s:Same H H'):Tups H H':=fun b xs h=>s b _ h
theorem TrAt.mono{H H':Hp}(k:Tups H H'){v:V}{t:Tr}(h:TrAt H v t):TrAt H' v t:=by
 induction h with
 |nm e=>exact .nm (k _ _ e)
 |yes e=>exact .yes (k _ _ e)
 |no e=>exact .no (k _ _ e)
 |not e _ ih=>exact .not (k _ _ e) ih
 |bin e _ _ ih1 ih2=>exact .bin (k _ _ e) ih1 ih2
theorem TrAt.open{H:Hp}{v:V}{t:Tr}(h:TrAt H v t):∃ a rest,v = .ref a/\H a=some (.tup (.str t.tag::rest))/\(t.isNm=true->∃ x,t = .nm x/\rest=[.str x])/\(t.isNm=false->Paired (TrAt H) rest t.kids):=by
 cases h with
 |nm e=>exact⟨_,_,rfl,e,fun _=>⟨_,rfl,rfl⟩,fun z=>by cases z⟩
 |yes e=>exact⟨_,_,rfl,e,(fun z=>by cases z),fun _=>.nil⟩
 |no e=>exact⟨_,_,rfl,e,(fun z=>by cases z),fun _=>.nil⟩
 |not e h1=>exact⟨_,_,rfl,e,(fun z=>by cases z),fun _=>.cons h1 .nil⟩
 |bin e h1 h2=>exact⟨_,_,rfl,e,(fun z=>by cases z),fun _=>.cons h1 (.cons h2 .nil)⟩
theorem cP{H H':Hp}(k:Tups H H'){us:List V}{ts:List Tr}(h:Paired (TrAt H) us ts):Paired (TrAt H') us ts:=Paired.mapP h fun _ _ q=>q.mono k
theorem dM{α β:Type}{F:α->β->Prop}:∀{a c:List α}{b d:List β},Paired F a b->Paired F c d->Paired F (a++c) (b++d)
 |_,_,_,_,.nil,s=>s
 |_,_,_,_,.cons r t,s=>.cons r (dM t s)
theorem bQ{α β:Type}{F:α->β->Prop}:∀{a:List α}{b:List β},Paired F a b->∀(i:Nat) x,a[i]? = some x->∃ y,b[i]? = some y/\F x y
 |_,_,.nil,i,x,h=>by simp at h
 | _,_,.cons r t,0,x,h=>by
  rw[List.getElem?_cons_zero]at h;cases h;exact⟨_,rfl,r⟩
 | _,_,.cons r t,i+1,x,h=>by
  rw[List.getElem?_cons_succ]at h;exact bQ t i x h
theorem GC(x:V)(rest:List V):ig (x::rest) (some 1) none=rest:=by
 unfold ig HT.sIx;simp
theorem wK(x:V)(rest:List V):¬ (HT.sIx (x::rest).length 0 (some 1)=0/\HT.sIx (x::rest).length (x::rest).length none=(x::rest).length):=by
 unfold HT.sIx;simp
theorem aD{H:Hp}{l:Addr}{o:HO}(h:H l=none):Same H (upd H l o):=fun b u e=>by
 rw[aF (aM e h)];exact e
theorem wL{H:Hp}{b:Addr}{xs:List V}{o:HO}(h:H b=some (.lst xs)):Tups H (upd H b o):=fun c ys e=>by
 rw[aF (fun z=>by subst z;rw[h]at e;cases e)];exact e
theorem Dv{H H':Hp}(s:Same H H'){l:Addr}(h:H' l=none):H l=none:=s.free h
end Mc
namespace Mc
open PySem PySem.Spec PyProof.Rows L2
theorem Dw{kvs:List (Key×V)}{ys:List Str}(h:kvs.map (·.1)=ys.map Sum.inr)(x:Str)(v:V):
  (putK kvs (Sum.inr x:Key) v).map (·.1)=(if x∈ys then ys else ys++[x]).map Sum.inr:=by
 have hmem:((kvs.any fun kv=>decide (kv.1=(Sum.inr x:Key)))=true)↔x∈ys:=by
  rw[List.any_eq_true]
  constructor
  . rintro⟨p,hp,e⟩
    have e:=qod e;have:(Sum.inr x:Key)∈kvs.map (·.1):=List.mem_map.mpr ⟨p,hp,e⟩;rw[h]at this;obtain⟨y,hy,e2⟩:=List.mem_map.mp this;cases e2;exact hy
  . intro hx
    have:(Sum.inr x:Key)∈kvs.map (·.1):=by rw[h];exact List.mem_map.mpr ⟨x,hx,rfl⟩
    obtain⟨p,hp,e⟩:=List.mem_map.mp this;exact⟨p,hp,qdt e⟩
 unfold putK
 by_cases e:x∈ys
 . rw[qp (hmem.mpr e),qp e,List.map_map,<- h]
   apply List.map_congr_left;intro p _;show(if p.1=(Sum.inr x:Key)then(p.1,v)else p).1=p.1
   split <;> rfl
 . rw[qnZ (fun z=>e (hmem.mp z)),qnZ e,List.map_append,h,List.map_append]
   rfl
theorem lk{n:Nat}(h:n<=1000):n<=sizeLine:=Nat.le_of_lt (dO h)
theorem lks{n:Nat}(h:n<=1000:=by first|exact Nat.le_of_ble_eq_true rfl|simp):n<=sizeLine:=lk h
theorem Bg{ys:List Str}(h:ys.Nodup){x:Str}(hx:x∉ys):(ys++[x]).Nodup:=yx h hx
end Mc
namespace Mc
open PySem
theorem qL(a:Nat):(Builtin.bitNot (Builtin.bitNot (a:Int)))=a:=by unfold Builtin.bitNot;omega
theorem band(a b:Nat):Builtin.bitAnd (a:Int) (b:Int)=((a &&& b:Nat):Int):=by
 unfold Builtin.bitAnd;rw[qdt (Int.natCast_nonneg a),qdt (Int.natCast_nonneg b)]
 rfl
theorem bor(a b:Nat):Builtin.bitOr (a:Int) (b:Int)=((a ||| b:Nat):Int):=by
 unfold Builtin.bitOr Builtin.bitAnd;have h1:¬ (0:Int)<=Builtin.bitNot (a:Int):=by unfold Builtin.bitNot;omega
 have h2:¬ (0:Int)<=Builtin.bitNot (b:Int):=by unfold Builtin.bitNot;omega
 rw[qdf h1,qdf h2];show Builtin.bitNot (Builtin.bitNot (((Builtin.bitNot (Builtin.bitNot (a:Int))).toNat ||| (Builtin.bitNot (Builtin.bitNot (b:Int))).toNat:Nat):Int))=_;rw[qL,qL,qL]
 rfl
theorem xY:∀(a b:Nat),(a ^^^ b)+(a &&& b)=a ||| b:=by
 intro a
 induction a using Nat.strongRecOn with
 | ind a ih =>
  intro b
  by_cases h:a=0
  . subst h
    simp
  . have q:=ih (a / 2) (by omega) (b / 2)
    have e1:(a ^^^ b) / 2=a / 2 ^^^ b / 2:=Nat.xor_div_two;have e2:(a &&& b) / 2=a / 2 &&& b / 2:=Nat.and_div_two;have e3:(a ||| b) / 2=a / 2 ||| b / 2:=Nat.or_div_two
    have m:∀ x:Nat,x % 2=if x.testBit 0 then 1 else 0:=fun x=>by
     rw[Nat.testBit_zero]
     by_cases z:x % 2=1
     . simp[z]
     . simp[z];omega
    have f1:=m (a ^^^ b);have f2:=m (a &&& b);have f3:=m (a ||| b);rw[Nat.testBit_xor]at f1;rw[Nat.testBit_and]at f2;rw[Nat.testBit_or]at f3;have d1:=Nat.div_add_mod (a ^^^ b) 2;have d2:=Nat.div_add_mod (a &&& b) 2;have d3:=Nat.div_add_mod (a ||| b) 2;rw[e1]at d1;rw[e2]at d2;rw[e3]at d3
    have key:∀(u v:Bool)(x y z:Nat),x=(if (u ^^ v)=true then 1 else 0)->y=(if (u && v)=true then 1 else 0)->z=(if (u || v)=true then 1 else 0)->x+y=z:=by
     intro u v x y z h1 h2 h3;subst h1 h2 h3;cases u <;> cases v <;> rfl
    have:=key _ _ _ _ _ f1 f2 f3;omega
theorem bxor(a b:Nat):Builtin.bitXor (a:Int) (b:Int)=((a ^^^ b:Nat):Int):=by
 unfold Builtin.bitXor;rw[bor,band];have:=xY a b;omega
def fL(p:Nat->Bool):Nat->Nat
 | 0=>0
 |m+1=>fL p m+if p m=true then 2 ^ m else 0
theorem pR(p:Nat->Bool):∀ m,fL p m<2 ^ m
 | 0=>Nat.one_pos
 | m+1=>by
  have:=pR p m;have e:2 ^ (m+1)=2 ^ m+2 ^ m:=by rw[Nat.pow_succ];omega
  show fL p m+(if p m=true then 2 ^ m else 0)<_
  split <;> omega
theorem dG(p:Nat->Bool):∀ m i,(fL p m).testBit i=(decide (i<m) && p i)
 | 0,i=>by simp[fL]
 | m + 1,i=>by
  have hlt:=pR p m;have ih:=dG p m
  by_cases h1:i<m
  . have e:(fL p (m+1)).testBit i=(fL p m).testBit i:=by
     show(fL p m+if p m=true then 2 ^ m else 0).testBit i=_
     split
     . rw[Nat.add_comm];exact Nat.testBit_two_pow_add_gt h1 _
     . rfl
    rw[e,ih i,qdt h1,qdt (show i<m+1 by omega)]
  . by_cases h2:i=m
    . subst h2
      rw[qdt (show i<i+1 by omega)];show(fL p i+if p i=true then 2 ^ i else 0).testBit i=_;have z:(fL p i).testBit i=false:=Nat.testBit_lt_two_pow hlt;cases hp:p i with
      |true=>rw[qp rfl,Nat.add_comm,Nat.testBit_two_pow_add_eq,z];rfl
      |false=>rw[qnZ (by decide)];exact z
    . rw[qdf (show ¬ i<m+1 by omega)]
      have:=pR p (m+1);have e:2 ^ (m+1)<=2 ^ i:=Nat.pow_le_pow_right (by decide) (by omega);exact Nat.testBit_lt_two_pow (by omega)
theorem GD(m:Nat):fL (fun _=>true) m=2 ^ m - 1:=by
 refine Nat.eq_of_testBit_eq fun i=>?_
 rw[dG,Nat.testBit_two_pow_sub_one,Bool.and_true]
theorem Dy(m:Nat):fL (fun _=>false) m=0:=by
 refine Nat.eq_of_testBit_eq fun i=>?_
 rw[dG,Nat.zero_testBit,Bool.and_false]
def bu(g:Str->Bool):Tr->Bool
 | .nm x=>g x
 | .yes=>true
 | .no=>false
 | .not t=>!bu g t
 | .bin .and a b=>bu g a && bu g b
 | .bin .or a b=>bu g a || bu g b
 | .bin .thn a b=>!bu g a || bu g b
 | .bin .same a b=>bu g a == bu g b
def pU:Op->Nat×Nat->Nat×Nat->Nat×Nat
 | .and,l,r=>(l.1 &&& r.1,l.2 ||| r.2)
 | .or,l,r=>(l.1 ||| r.1,l.2 &&& r.2)
 | .thn,l,r=>(l.2 ||| r.1,l.1 &&& r.2)
 | .same,l,r=>((l.1 &&& r.1) ||| (l.2 &&& r.2),(l.1 &&& r.2) ||| (l.2 &&& r.1))
def cY(f:Str->Nat×Nat)(e:Nat):Tr->Nat×Nat
 | .nm x=>f x
 | .yes=>(e,0)
 | .no=>(0,e)
 | .not t=>((cY f e t).2,(cY f e t).1)
 | .bin o a b=>pU o (cY f e a) (cY f e b)
theorem jA{f:Str->Nat×Nat}{e i:Nat}{g:Str->Bool}(he:e.testBit i=true):∀{t:Tr},(∀ x∈t.names,(f x).1.testBit i=g x/\(f x).2.testBit i = !g x) ->
  (cY f e t).1.testBit i=bu g t/\(cY f e t).2.testBit i = !bu g t
 | .nm x,h=>h x qms
 | .yes,_=>⟨he,Nat.zero_testBit i⟩
 | .no,_=>⟨Nat.zero_testBit i,he⟩
 | .not t,h=>by
  obtain⟨h1,h2⟩:=jA he (t:=t) h;exact⟨h2,by show(cY f e t).1.testBit i = !!bu g t;rw[h1,Bool.not_not]⟩
 | .bin o a b,h=>by
  obtain⟨a1,a2⟩:=jA he (t:=a) fun x hx=>h x (qal _ hx)
  obtain⟨b1,b2⟩:=jA he (t:=b) fun x hx=>h x (qar _ hx)
  cases o <;> simp only[cY,pU,bu,Nat.testBit_and,Nat.testBit_or,a1,a2,b1,b2] <;> cases bu g a <;> cases bu g b <;> first|exact⟨rfl,rfl⟩|exact⟨trivial,trivial⟩|decide
theorem lH{f:Str->Nat×Nat}{e i:Nat}(he:e.testBit i=false):∀{t:Tr},(∀ x∈t.names,(f x).1.testBit i=false/\(f x).2.testBit i=false) ->
  (cY f e t).1.testBit i=false/\(cY f e t).2.testBit i=false
 | .nm x,h=>h x qms
 | .yes,_=>⟨he,Nat.zero_testBit i⟩
 | .no,_=>⟨Nat.zero_testBit i,he⟩
 | .not t,h=>by
  obtain⟨h1,h2⟩:=lH he (t:=t) h;exact⟨h2,h1⟩
 | .bin o a b,h=>by
  obtain⟨a1,a2⟩:=lH he (t:=a) fun x hx=>h x (qal _ hx)
  obtain⟨b1,b2⟩:=lH he (t:=b) fun x hx=>h x (qar _ hx)
  cases o <;> simp only[cY,pU,Nat.testBit_and,Nat.testBit_or,a1,a2,b1,b2] <;> first|exact⟨rfl,rfl⟩|exact⟨trivial,trivial⟩|decide
theorem iT{f h:Str->Nat×Nat}{e:Nat}:∀{t:Tr},(∀ x∈t.names,f x=h x)->cY f e t=cY h e t
 | .nm x,q=>q x qms
 | .yes,_=>rfl
 | .no,_=>rfl
 | .not t,q=>by
  have:=iT (e:=e) (t:=t) q;show((cY f e t).2,(cY f e t).1)=_;rw[this];rfl
 | .bin o a b,q=>by
  have e1:=iT (e:=e) (t:=a) fun x hx=>q x (qal _ hx)
  have e2:=iT (e:=e) (t:=b) fun x hx=>q x (qar _ hx)
  show pU o _ _=pU o _ _;rw[e1,e2]
def inW(ns:List Str)(i:Nat)(x:Str):Bool:=i.testBit (ns.idxOf x)
def dH(n k:Nat):Nat:=fL (fun i=>i.testBit k) (2 ^ n)
def cz(n:Nat):Nat:=2 ^ (2 ^ n) - 1
def aR(ns:List Str)(t:Tr):Nat:=fL (fun i=>bu (inW ns i) t) (2 ^ ns.length)
def aC(ns:List Str)(t:Tr):Nat:=fL (fun i=>!bu (inW ns i) t) (2 ^ ns.length)
theorem fU(n i:Nat):(cz n).testBit i=decide (i<2 ^ n):=by unfold cz;rw[Nat.testBit_two_pow_sub_one]
def ofN(ns:List Str)(x:Str):Nat×Nat:=(dH ns.length (ns.idxOf x),cz ns.length ^^^ dH ns.length (ns.idxOf x))
theorem xZ{ns:List Str}{t:Tr}:(cY (ofN ns) (cz ns.length) t).1=aR ns t:=by
 refine Nat.eq_of_testBit_eq fun i=>?_
 unfold aR;rw[dG]
 by_cases h:i<2 ^ ns.length
 . rw[qdt h,Bool.true_and]
   refine(jA (g:=inW ns i) (by rw[fU,qdt h]) fun x _=>?_).1;unfold ofN dH;rw[Nat.testBit_xor,dG,fU,qdt h,Bool.true_and,Bool.true_xor];exact⟨rfl,rfl⟩
 . rw[qdf h,Bool.false_and]
   refine(lH (by rw[fU,qdf h]) fun x _=>?_).1;unfold ofN dH;rw[Nat.testBit_xor,dG,fU,qdf h];exact⟨rfl,rfl⟩
theorem qi{ns:List Str}{t:Tr}:cz ns.length ^^^ aR ns t=aC ns t:=by
 refine Nat.eq_of_testBit_eq fun i=>?_
 unfold aR aC;rw[Nat.testBit_xor,dG,dG,fU];cases decide (i<2 ^ ns.length) <;> cases bu (inW ns i) t <;> rfl
theorem Kf(a k:Nat):((a / 2 ^ k) % 2:Nat)=if a.testBit k=true then 1 else 0:=by
 rw[Nat.testBit_eq_decide_div_mod_eq]
 by_cases h:a / 2 ^ k % 2=1
 . rw[qdt h,qp rfl,h]
 . rw[qdf h,qnZ (by decide)];omega
end Mc
namespace Mc
open PySem
theorem pW(n k i:Nat):(dH n k).testBit i=(decide (i<2 ^ n) && i.testBit k):=dG _ _ _
theorem Dz(k:Nat):(2 ^ (2 ^ k) - 1) * 2 ^ (2 ^ k)=dH (k+1) k:=by
 refine Nat.eq_of_testBit_eq fun i=>?_
 have e2:2 ^ (k+1)=2 ^ k+2 ^ k:=by rw[Nat.pow_succ];omega
 rw[pW,Nat.mul_comm,Nat.testBit_two_pow_mul,Nat.testBit_two_pow_sub_one]
 by_cases h1:i<2 ^ k
 . have z:i.testBit k=false:=Nat.testBit_lt_two_pow h1
   rw[z,Bool.and_false,qdf (show ¬ i ≥ 2 ^ k by omega),Bool.false_and]
 . by_cases h2:i<2 ^ (k+1)
   . have z:i.testBit k=true:=by
      have e:i=2 ^ k+(i - 2 ^ k):=by omega
      rw[e,Nat.testBit_two_pow_add_eq,Nat.testBit_lt_two_pow (show i - 2 ^ k<2 ^ k by omega)]
      rfl
     rw[z,qdt h2,qdt (show i ≥ 2 ^ k by omega),qdt (show i - 2 ^ k<2 ^ k by omega)]
   . rw[qdf h2,qdf (show ¬ i - 2 ^ k<2 ^ k by omega)]
     simp
theorem GF{j k:Nat}(h:k<j):dH j k ||| (dH j k * 2 ^ (2 ^ j))=dH (j+1) k:=by
 refine Nat.eq_of_testBit_eq fun i=>?_
 have e2:2 ^ (j+1)=2 ^ j+2 ^ j:=by rw[Nat.pow_succ];omega
 rw[Nat.testBit_or,pW,pW,Nat.mul_comm,Nat.testBit_two_pow_mul,pW]
 by_cases h1:i<2 ^ j
 . rw[qdt h1,qdt (show i<2 ^ (j+1)by omega),qdf (show ¬ i ≥ 2 ^ j by omega)]
   simp
 . rw [qdf h1,qdt (show i ≥ 2 ^ j by omega)]
   by_cases h2:i<2 ^ (j+1)
   . have z:(i - 2 ^ j).testBit k=i.testBit k:=by
      have e:i=2 ^ j+(i - 2 ^ j):=by omega
      conv=>rhs;rw[e]
      rw[Nat.testBit_two_pow_add_gt h]
     rw[qdt h2,qdt (show i - 2 ^ j<2 ^ j by omega),z];simp
   . rw[qdf h2,qdf (show ¬ i - 2 ^ j<2 ^ j by omega)]
     simp
theorem bO(ns:List Str)(t:Tr)(i:Nat):(aR ns t).testBit i=(decide (i<2 ^ ns.length) && bu (inW ns i) t):=dG _ _ _
theorem Mm(ns:List Str):aR ns .yes=cz ns.length:=GD _
theorem Ob(ns:List Str):aR ns .no=0:=Dy _
theorem Mr(ns:List Str)(t:Tr):aR ns (.not t)=cz ns.length ^^^ aR ns t:=by
 refine Nat.eq_of_testBit_eq fun i=>?_
 rw[Nat.testBit_xor,bO,bO,fU];show(decide (i<2 ^ ns.length) && !bu (inW ns i) t)=_;cases decide (i<2 ^ ns.length) <;> cases bu (inW ns i) t <;> rfl
theorem Ms(ns:List Str)(a b:Tr):aR ns (.bin .and a b)=aR ns a &&& aR ns b:=by
 refine Nat.eq_of_testBit_eq fun i=>?_
 rw[Nat.testBit_and,bO,bO,bO];show(decide (i<2 ^ ns.length) && (bu (inW ns i) a && bu (inW ns i) b))=_;cases decide (i<2 ^ ns.length) <;> cases bu (inW ns i) a <;> cases bu (inW ns i) b <;> rfl
theorem Oc(ns:List Str)(a b:Tr):aR ns (.bin .or a b)=aR ns a ||| aR ns b:=by
 refine Nat.eq_of_testBit_eq fun i=>?_
 rw[Nat.testBit_or,bO,bO,bO];show(decide (i<2 ^ ns.length) && (bu (inW ns i) a || bu (inW ns i) b))=_;cases decide (i<2 ^ ns.length) <;> cases bu (inW ns i) a <;> cases bu (inW ns i) b <;> rfl
theorem Mt(ns:List Str)(a b:Tr):aR ns (.bin .thn a b)=(cz ns.length ^^^ aR ns a) ||| aR ns b:=by
 refine Nat.eq_of_testBit_eq fun i=>?_
 rw[Nat.testBit_or,Nat.testBit_xor,bO,bO,bO,fU];show(decide (i<2 ^ ns.length) && (!bu (inW ns i) a || bu (inW ns i) b))=_;cases decide (i<2 ^ ns.length) <;> cases bu (inW ns i) a <;> cases bu (inW ns i) b <;> rfl
theorem Kg(ns:List Str)(a b:Tr):aR ns (.bin .same a b)=(cz ns.length ^^^ aR ns a) ^^^ aR ns b:=by
 refine Nat.eq_of_testBit_eq fun i=>?_
 rw[Nat.testBit_xor,Nat.testBit_xor,bO,bO,bO,fU];show(decide (i<2 ^ ns.length) && (bu (inW ns i) a == bu (inW ns i) b))=_;cases decide (i<2 ^ ns.length) <;> cases bu (inW ns i) a <;> cases bu (inW ns i) b <;> rfl
def fH(rs:List Int)(side m:Nat):List Int:=((List.range m).filter fun i=>side.testBit i).map fun i=>rs.getD i 0
def sel(rs:List Int)(side:Nat):List Int:=fH rs side rs.length
theorem rT(rs:List Int)(side m:Nat):fH rs side (m+1)=fH rs side m++if side.testBit m=true then [rs.getD m 0]else []:=by
 unfold fH;rw[List.range_succ,List.filter_append,List.map_append];cases h:side.testBit m with
 |true=>simp[h]
 |false=>simp[h]
theorem uP(rs:List Int)(side m:Nat):(fH rs side m).length <= m:=by
 unfold fH;rw[qlm];refine qnt (List.length_filter_le _ _) ?_;rw[List.length_range];exact qnr _
def aO:List Int->Option Int
 |[]=>none
 |x::r=>some (r.foldl min x)
theorem oR:∀(r:List Int)(x:Int),(r.foldl min x=x\/r.foldl min x∈r)/\r.foldl min x<=x/\∀ a∈r,r.foldl min x<=a
 |[],x=>⟨.inl rfl,Int.le_refl _,fun a h=>nomatch h⟩
 | y::r,x=>by
  obtain⟨h1,h2,h3⟩:=oR r (min x y);show(r.foldl min (min x y)=x\/r.foldl min (min x y)∈y::r)/\r.foldl min (min x y)<=x/\∀ a∈y::r,r.foldl min (min x y)<=a;refine⟨?_,by omega,fun a ha=>?_⟩
  . rcases h1 with h1|h1
    . rw[h1]
      by_cases h:x<=y
      . exact .inl (by omega)
      . exact .inr (by rw[show min x y=y by omega];exact qms)
    . exact .inr (qmm _ h1)
  . rcases List.mem_cons.mp ha with rfl|ha
    . omega
    . exact h3 a ha
theorem jl{l:List Int}{M:Int}(h1:M∈l)(h2:∀ a∈l,M<=a):aO l=some M:=by
 cases l with
 |nil=>cases h1
 | cons x r =>
  obtain⟨q1,q2,q3⟩:=oR r x;show some (r.foldl min x)=some M
  have a1:r.foldl min x∈x::r:=by
   rcases q1 with q|q
   . rw[q];exact qms
   . exact qmm _ q
  have a2:=h2 _ a1
  have a3:r.foldl min x<=M:=by
   rcases List.mem_cons.mp h1 with rfl|h
   . exact q2
   . exact q3 M h
  congr 1
  omega
theorem mem_sel{rs:List Int}{sd:Nat}{x:Int}:x∈sel rs sd↔∃ i,i<rs.length/\sd.testBit i=true/\rs.getD i 0=x:=by
 unfold sel fH;rw[List.mem_map]
 constructor
 . rintro⟨i,h,rfl⟩
   obtain⟨h1,h2⟩:=List.mem_filter.mp h;exact⟨i,List.mem_range.mp h1,h2,rfl⟩
 . rintro⟨i,h1,h2,rfl⟩
   exact⟨i,List.mem_filter.mpr ⟨List.mem_range.mpr h1,h2⟩,rfl⟩
theorem bh{l:List Int}{M:Int}(h:aO l=some M):M∈l/\∀ a∈l,M<=a:=by
 cases l with
 |nil=>cases h
 | cons x r =>
  obtain⟨q1,q2,q3⟩:=oR r x;have e:r.foldl min x=M:=qsi h;rw[e]at q1 q2 q3;refine⟨?_,fun a ha=>?_⟩
  . rcases q1 with q|q
    . rw[q];exact qms
    . exact qmm _ q
  . rcases List.mem_cons.mp ha with rfl|ha
    . exact q2
    . exact q3 a ha
theorem fY{l:List Int}(h:aO l=none):l=[]:=by
 cases l with
 |nil=>rfl
 |cons x r=>cases h
theorem gB(ns:List Str)(t:Tr)(i:Nat):(aC ns t).testBit i=(decide (i<2 ^ ns.length) && !bu (inW ns i) t):=dG _ _ _
theorem oU{ns:List Str}{rs:List Int}(h:rs.length=2 ^ ns.length)(t:Tr){x:Int}(hx:x∈rs):x∈sel rs (aC ns t)\/x∈sel rs (aR ns t):=by
 obtain⟨i,hi,e⟩:=List.mem_iff_getElem.mp hx;have eg:rs.getD i 0=x:=by rw[List.getD,List.getElem?_eq_getElem hi];exact e
 cases hb:bu (inW ns i) t with
 |true=>exact .inr (mem_sel.mpr ⟨i,hi,by rw[bO,hb,qdt (by omega)];rfl,eg⟩)
 |false=>exact .inl (mem_sel.mpr ⟨i,hi,by rw[gB,hb,qdt (by omega)];rfl,eg⟩)
theorem gK{rs:List Int}{sd:Nat}{x:Int}(h:x∈sel rs sd):x∈rs:=by
 obtain⟨i,hi,_,e⟩:=mem_sel.mp h;rw[List.getD,List.getElem?_eq_getElem hi]at e;rw[<- e];exact List.getElem_mem hi
end Mc
namespace Mc
open PySem
def cT(l:Int):Int:=if 0 > l then 0 else l
theorem yJ(l:Int):0<=cT l:=by unfold cT;split <;> omega
def gU(rs:List Int)(bk:Nat)(dx dy:Int)(m:Nat):List Int:=(List.range m).map fun i=>rs.getD i 0+if bk.testBit i=true then dx else dy
def eZ(rs:List Int)(bk:Nat)(x y lean:Int):List Int:=gU rs bk (cT lean - x) (cT (-lean) - y) rs.length
theorem yc(rs:List Int)(bk:Nat)(dx dy:Int)(m:Nat):gU rs bk dx dy (m+1)=gU rs bk dx dy m++[rs.getD m 0+if bk.testBit m=true then dx else dy]:=by
 unfold gU;rw[List.range_succ,List.map_append]
 rfl
theorem rW(rs:List Int)(bk:Nat)(dx dy:Int)(m:Nat):(gU rs bk dx dy m).length=m:=by unfold gU;simp
theorem jH(rs:List Int)(bk:Nat)(x y lean:Int):(eZ rs bk x y lean).length=rs.length:=rW _ _ _ _ _
theorem ir{rs:List Int}{bk:Nat}{x y lean:Int}{i:Nat}(h:i<rs.length):(eZ rs bk x y lean).getD i 0=rs.getD i 0+if bk.testBit i=true then cT lean - x else cT (-lean) - y:=by
 unfold eZ gU;rw[List.getD,qgm,List.getElem?_range h]
 rfl
theorem mem_getD{rs:List Int}{x:Int}(h:x∈rs):∃ i,i<rs.length/\rs.getD i 0=x:=by
 obtain⟨i,hi,e⟩:=List.mem_iff_getElem.mp h;exact⟨i,hi,by rw[List.getD,List.getElem?_eq_getElem hi];exact e⟩
theorem kW{ns:List Str}{t:Tr}{i:Nat}(h:i<2 ^ ns.length):(aR ns t).testBit i = !(aC ns t).testBit i:=by
 rw[bO,gB,qdt h];simp
structure TwoL(ns:List Str)(t:Tr)(rs:List Int)(x y:Int):Prop where
 len:rs.length=2 ^ ns.length
 br:aO (sel rs (aC ns t))=some x
 kp:aO (sel rs (aR ns t))=some y
theorem TwoL.of_br{ns:List Str}{t:Tr}{rs:List Int}{x y:Int}(h:TwoL ns t rs x y){i:Nat}(hi:i<rs.length)(hb:(aC ns t).testBit i=true):x<=rs.getD i 0:=(bh h.br).2 _ (mem_sel.mpr ⟨i,hi,hb,rfl⟩)
theorem TwoL.of_kp{ns:List Str}{t:Tr}{rs:List Int}{x y:Int}(h:TwoL ns t rs x y){i:Nat}(hi:i<rs.length)(hb:(aC ns t).testBit i=false):y<=rs.getD i 0:=(bh h.kp).2 _ (mem_sel.mpr ⟨i,hi,by rw[kW (by have:=h.len;omega),hb];rfl,rfl⟩)
theorem TwoL.turnT{ns:List Str}{t:Tr}{rs:List Int}{x y:Int}(h:TwoL ns t rs x y)(lean:Int):TwoL ns t (eZ rs (aC ns t) x y lean) (cT lean) (cT (-lean)):=by
 have hl:=jH rs (aC ns t) x y lean;refine⟨by rw[hl];exact h.len,jl ?_ ?_,jl ?_ ?_⟩
 . obtain⟨i,hi,hb,e⟩:=mem_sel.mp (bh h.br).1
   refine mem_sel.mpr ⟨i,by omega,hb,?_⟩;rw[ir hi,e,qp hb];omega
 . intro a ha
   obtain⟨i,hi,hb,rfl⟩:=mem_sel.mp ha;have hi:i<rs.length:=by omega
   have:=h.of_br hi hb;rw[ir hi,qp hb];omega
 . obtain⟨i,hi,hb,e⟩:=mem_sel.mp (bh h.kp).1
   have hb':=hb;rw[kW (by have:=h.len;omega)]at hb';have hb':(aC ns t).testBit i=false:=by simpa using hb'
   refine mem_sel.mpr ⟨i,by omega,hb,?_⟩;rw[ir hi,e,qnZ (by rw[hb'];decide)];omega
 . intro a ha
   obtain⟨i,hi,hb,rfl⟩:=mem_sel.mp ha;have hi:i<rs.length:=by omega
   have hb':=hb;rw[kW (by have:=h.len;omega)]at hb';have hb':(aC ns t).testBit i=false:=by simpa using hb'
   have:=h.of_kp hi hb';rw[ir hi,qnZ (by rw[hb'];decide)];omega
theorem TwoL.geT{ns:List Str}{t:Tr}{rs:List Int}{x y:Int}(h:TwoL ns t rs x y){lean:Int}:∀ z∈eZ rs (aC ns t) x y lean,0<=z:=by
 intro z hz;obtain⟨i,hi,rfl⟩:=mem_getD hz;rw[jH]at hi;rw[ir hi];have g1:=yJ lean;have g2:=yJ (-lean);cases hb:(aC ns t).testBit i with
 | true =>
  have:=h.of_br hi hb;rw[qp rfl];omega
 | false =>
  have:=h.of_kp hi hb;rw[qnZ (by decide)];omega
theorem TwoL.zeroT{ns:List Str}{t:Tr}{rs:List Int}{x y:Int}(h:TwoL ns t rs x y)(lean:Int):0∈eZ rs (aC ns t) x y lean:=by
 have h2:=h.turnT lean
 by_cases hl:0<lean
 . have e:cT (-lean)=0:=by unfold cT;split <;> omega
   rw[<- e];exact gK (bh h2.kp).1
 . have e:cT lean=0:=by unfold cT;split <;> omega
   have q:=gK (bh h2.br).1;rw[e]at q;exact q
def dg(ns:List Str)(t:Tr)(rs:List Int):List Int:=match aO (sel rs (aC ns t)),aO (sel rs (aR ns t))with
 |some x,some y=>if 0<x then eZ rs (aC ns t) x y 0 else rs
 |_,_=>rs
def gY(ns:List Str)(t:Tr)(rs:List Int)(firm:Int):List Int:=match aO (sel rs (aC ns t)),aO (sel rs (aR ns t))with
 |some x,some y=>eZ rs (aC ns t) x y firm
 |_,_=>rs
structure Mind(ns:List Str)(rs:List Int):Prop where
 len:rs.length=2 ^ ns.length
 ge:∀ z∈rs,0<=z
 zero:0∈rs
theorem Mind.turnM{ns:List Str}{t:Tr}{rs:List Int}{x y:Int}(h:TwoL ns t rs x y)(lean:Int):Mind ns (eZ rs (aC ns t) x y lean):=⟨by rw[jH];exact h.len,h.geT,h.zeroT lean⟩
theorem Mind.giveM{ns:List Str}{rs:List Int}(h:Mind ns rs)(t:Tr):Mind ns (dg ns t rs):=by
 unfold dg
 split
 . split
   . exact Mind.turnM ⟨h.len,by assumption,by assumption⟩ 0
   . exact h
 . exact h
theorem Mind.takeM{ns:List Str}{rs:List Int}(h:Mind ns rs)(t:Tr)(firm:Int):Mind ns (gY ns t rs firm):=by
 unfold gY
 split
 . exact Mind.turnM ⟨h.len,by assumption,by assumption⟩ firm
 . exact h
def rY(ns:List Str)(rs:List Int)(t:Tr):Prop:=∀ i,i<2 ^ ns.length->rs.getD i 0=0->bu (inW ns i) t=true
theorem Mind.leastM{ns:List Str}{rs:List Int}(h:Mind ns rs)(t:Tr){x:Int}(hx:aO (sel rs (aC ns t))=some x):0<=x:=h.ge x (gK (bh hx).1)
theorem Mind.pos_iff{ns:List Str}{rs:List Int}(h:Mind ns rs)(t:Tr):(match aO (sel rs (aC ns t))with|none=>True|some x=>0<x)↔rY ns rs t:=by
 constructor
 . intro q i hi e
   cases hb:bu (inW ns i) t with
   |true=>rfl
   | false =>
    have hm:(0:Int)∈sel rs (aC ns t):=mem_sel.mpr ⟨i,by rw[h.len];exact hi,by rw[gB,hb,qdt hi];rfl,e⟩;cases hl:aO (sel rs (aC ns t))with
    |none=>rw[fY hl]at hm;cases hm
    | some x =>
     rw[hl]at q;have:=(bh hl).2 _ hm;exact absurd (show 0<x from q) (by omega)
 . intro q
   cases hl:aO (sel rs (aC ns t))with
   |none=>trivial
   | some x =>
    show 0<x;have hx:=h.leastM t hl;obtain⟨i,hi,hb,e⟩:=mem_sel.mp (bh hl).1;rw[gB]at hb;obtain⟨hb1,hb2⟩:=Bool.and_eq_true_iff.mp hb
    by_cases z:x=0
    . rw[z]at e
      rw[q i (qod hb1) e]at hb2;cases hb2
    . omega
theorem tW{ns:List Str}{t:Tr}{rs:List Int}{x:Int}(hb:aO (sel rs (aC ns t))=some x)(hM:Mind ns rs){i:Nat}(hi:i<2 ^ ns.length):(dg ns t rs).getD i 0=rs.getD i 0 - if (aC ns t).testBit i=true then x else 0:=by
 have hx:=hM.ge x (gK (bh hb).1);unfold dg;rw[hb];cases hk:aO (sel rs (aR ns t))with
 | none =>
  show rs.getD i 0=_
  have:x=0:=by
   rcases oU hM.len t hM.zero with q|q
   . have:=(bh hb).2 _ q
     omega
   . rw[fY hk]at q
     cases q
  rw[this]
  split <;> omega
 | some y =>
  show(if 0<x then eZ rs (aC ns t) x y 0 else rs).getD i 0=_
  by_cases c:0<x
  . rw [qp c,ir (by rw[hM.len];exact hi)]
    have hy:y=0:=by
     have hy0:=hM.ge y (gK (bh hk).1);rcases oU hM.len t hM.zero with q|q
     . have:=(bh hb).2 _ q
       omega
     . have:=(bh hk).2 _ q
       omega
    have p0:cT 0=0:=by unfold cT;split <;> omega
    have p1:cT (-0)=0:=p0;rw[p0,p1,hy]
    split <;> omega
  . rw[qnZ c]
    have:x=0:=by omega
    rw[this]
    split <;> omega
theorem jm{ns:List Str}{t:Tr}{i:Nat}(hi:i<2 ^ ns.length):(aC ns t).testBit i=true↔bu (inW ns i) t=false:=by
 rw[gB,qdt hi];cases bu (inW ns i) t <;> simp
theorem GJ{ns:List Str}{t:Tr}{rs:List Int}{x:Int}(hl:rs.length=2 ^ ns.length)(hb:aO (sel rs (aC ns t))=some x):(∃ i,i<2 ^ ns.length/\bu (inW ns i) t=false/\rs.getD i 0=x)/\∀ i,i<2 ^ ns.length->bu (inW ns i) t=false->x<=rs.getD i 0:=by
 refine⟨?_,fun i hi h=>(bh hb).2 _ (mem_sel.mpr ⟨i,by omega,(jm hi).mpr h,rfl⟩)⟩;obtain⟨i,hi,h,e⟩:=mem_sel.mp (bh hb).1;rw[hl]at hi;exact⟨i,hi,(jm hi).mp h,e⟩
theorem uQ{ns:List Str}{t u:Tr}{rs:List Int}{x:Int}(hb:aO (sel rs (aC ns t))=some x)(hM:Mind ns rs):rY ns (dg ns t rs) u↔rY ns rs u/\∀ i,i<2 ^ ns.length->bu (inW ns i) t=false->rs.getD i 0=x->bu (inW ns i) u=true:=by
 have hx:=hM.ge x (gK (bh hb).1);have hl:=(GJ hM.len hb).2
 constructor
 . intro q
   refine⟨fun i hi e=>?_,fun i hi hbi e=>?_⟩
   . refine q i hi ?_
     rw[tW hb hM hi]
     by_cases c:(aC ns t).testBit i=true
     . have:=hl i hi ((jm hi).mp c)
       rw[qp c];omega
     . rw[qnZ c]
       omega
   . refine q i hi ?_
     rw[tW hb hM hi,qp ((jm hi).mpr hbi),e];omega
 . rintro⟨q1,q2⟩ i hi e
   rw[tW hb hM hi]at e
   by_cases c:(aC ns t).testBit i=true
   . rw[qp c]at e
     exact q2 i hi ((jm hi).mp c) (by omega)
   . rw[qnZ c]at e
     exact q1 i hi (by omega)
end Mc
namespace Mc
open PySem
end Mc
namespace Mc
open PySem
end Mc
namespace Mc
open PySem
end Mc
namespace L2
open PySem PyProof.Rows Mc
variable{X:Cx}
end L2
set_option Elab.async false
set_option linter.all false
set_option maxRecDepth 100000
set_option maxHeartbeats 8000000
namespace K62
open PySem L2 Mc
def top(i:Nat):Stmt:=PySem.Challenge.pw_mindchange_k62_one_mind_asked.main.body.getD i (.Pass ⟨0,0,0,0⟩)
abbrev S0:Stmt:=top 14
abbrev S1:Stmt:=top 15
abbrev S2:Stmt:=top 16
abbrev S3:Stmt:=top 17
abbrev S4:Stmt:=top 18
abbrev S5:Stmt:=top 19
abbrev S6:Stmt:=top 21
abbrev S7:Stmt:=top 22
abbrev S8:Stmt:=top 23
abbrev S9:Stmt:=top 24
abbrev S10:Stmt:=top 25
abbrev S11:Stmt:=top 26
abbrev S12:Stmt:=top 27
abbrev S13:Stmt:=top 28
abbrev S14:Stmt:=top 29
abbrev S15:Stmt:=top 30
abbrev S16:Stmt:=top 31
abbrev S17:Stmt:=top 33
abbrev S18:Stmt:=top 34
abbrev S19:Stmt:=top 35
abbrev S20:Stmt:=top 36
abbrev S21:Stmt:=top 37
abbrev S22:Stmt:=top 38
abbrev S23:Stmt:=top 39
abbrev S24:Stmt:=top 41
abbrev S25:Stmt:=top 42
abbrev S26:Stmt:=top 43
abbrev S27:Stmt:=top 44
abbrev S28:Stmt:=top 46
abbrev S29:Stmt:=top 47
abbrev S30:Stmt:=top 48
abbrev S31:Stmt:=top 49
abbrev S32:Stmt:=top 50
abbrev S33:Stmt:=inClass (top 52) 0
abbrev S34:Stmt:=inClass (top 52) 1
abbrev S35:Stmt:=inClass (top 52) 2
abbrev S36:Stmt:=inClass (top 52) 3
abbrev S37:Stmt:=inClass (top 52) 4
abbrev S38:Stmt:=inClass (top 52) 5
abbrev S39:Stmt:=inClass (top 52) 6
abbrev S40:Stmt:=inClass (top 52) 7
abbrev S41:Stmt:=inClass (top 52) 8
abbrev S42:Stmt:=inClass (top 52) 9
abbrev S43:Stmt:=inClass (top 52) 10
abbrev S44:Stmt:=inClass (top 52) 11
abbrev S45:Stmt:=top 58
abbrev S46:Stmt:=top 59
abbrev S47:Stmt:=top 60
abbrev S48:Stmt:=inClass (top 61) 0
abbrev S49:Stmt:=inClass (top 61) 1
abbrev S50:Stmt:=inClass (top 61) 2
abbrev S51:Stmt:=inClass (top 61) 3
abbrev S52:Stmt:=inClass (top 61) 4
abbrev S53:Stmt:=inClass (top 61) 5
abbrev S54:Stmt:=inClass (top 61) 6
abbrev S55:Stmt:=top 62
abbrev S56:Stmt:=top 63
abbrev S57:Stmt:=top 68
abbrev S58:Stmt:=top 69
abbrev S59:Stmt:=top 70
abbrev S60:Stmt:=top 71
abbrev S61:Stmt:=top 72
abbrev S62:Stmt:=top 73
abbrev S63:Stmt:=top 74
abbrev S64:Stmt:=top 75
abbrev S65:Stmt:=top 76
abbrev S66:Stmt:=top 77
abbrev S67:Stmt:=top 78
abbrev S68:Stmt:=top 79
abbrev S69:Stmt:=top 80
abbrev S70:Stmt:=top 81
abbrev S71:Stmt:=top 82
abbrev S72:Stmt:=top 83
abbrev S73:Stmt:=top 84
abbrev S74:Stmt:=top 86
abbrev S75:Stmt:=inClass (top 88) 0
abbrev S76:Stmt:=top 89
abbrev S77:Stmt:=top 90
abbrev S78:Stmt:=top 91
abbrev S79:Stmt:=top 92
abbrev S80:Stmt:=top 93
abbrev S81:Stmt:=top 94
abbrev S82:Stmt:=top 95
abbrev S83:Stmt:=top 96
abbrev S84:Stmt:=top 97
abbrev S85:Stmt:=top 98
abbrev S86:Stmt:=top 101
abbrev S87:Stmt:=top 102
abbrev S88:Stmt:=top 103
abbrev S89:Stmt:=top 104
abbrev S90:Stmt:=top 105
abbrev S91:Stmt:=top 107
abbrev S92:Stmt:=top 108
abbrev S93:Stmt:=top 109
abbrev S94:Stmt:=top 110
abbrev S95:Stmt:=top 111
abbrev S96:Stmt:=top 112
abbrev S97:Stmt:=top 113
abbrev S98:Stmt:=top 114
abbrev S99:Stmt:=top 115
abbrev GK:Stmt:=top 116
abbrev GP:Stmt:=top 119
abbrev GQ:Stmt:=top 120
abbrev GR:Stmt:=top 121
abbrev GX:Stmt:=top 122
abbrev GZ:Stmt:=top 123
abbrev Hc:Stmt:=top 124
abbrev Hd:Stmt:=top 125
abbrev Hf:Stmt:=top 126
abbrev Hg:Stmt:=top 127
abbrev Hh:Stmt:=top 128
abbrev Hi:Stmt:=top 129
structure Tp(K:W.Frag)(mg:Str->Option Value)(x:Str)(st:Stmt)(ps:List Str)(f:Addr)(fd:FuncData):Prop where
 F:Fun K x x st f fd
 b:Binds K fd ps []
 m:mg x=some (.ref f)
 k:W.keepIn K (.ref f)=true
structure Mp(K:W.Frag)(C:Addr)(x q:Str)(st:Stmt)(ps:List Str)(f:Addr)(fd:FuncData):Prop where
 F:Fun K x q st f fd
 b:Binds K fd ps []
 e:Meth K C x f
structure Tq(K:W.Frag)(x:Str)(st:Stmt)(f:Addr)(fd:FuncData):Prop where
 F:Fun K x x st f fd
 a:W.nsIn K mainGlobals x=some (some (.ref f))
structure Mq(K:W.Frag)(C:Addr)(x q:Str)(st:Stmt)(f:Addr)(fd:FuncData):Prop where
 F:Fun K x q st f fd
 a:W.findIn K (.ref C) x=some (some (.ref f))
 i:W.isFn K (.ref f)=true
set_option genSizeOf false in
set_option genInjectivity false in
structure Adr where
 a0:Addr
 d0:FuncData
 a1:Addr
 d1:FuncData
 a2:Addr
 d2:FuncData
 a3:Addr
 d3:FuncData
 a4:Addr
 d4:FuncData
 a5:Addr
 d5:FuncData
 a6:Addr
 d6:FuncData
 a7:Addr
 d7:FuncData
 a8:Addr
 d8:FuncData
 a9:Addr
 d9:FuncData
 a10:Addr
 d10:FuncData
 a11:Addr
 d11:FuncData
 a12:Addr
 d12:FuncData
 a13:Addr
 d13:FuncData
 a14:Addr
 d14:FuncData
 a15:Addr
 d15:FuncData
 a16:Addr
 d16:FuncData
 a17:Addr
 d17:FuncData
 a18:Addr
 d18:FuncData
 a19:Addr
 d19:FuncData
 a20:Addr
 d20:FuncData
 a21:Addr
 d21:FuncData
 a22:Addr
 d22:FuncData
 a23:Addr
 d23:FuncData
 a24:Addr
 d24:FuncData
 a25:Addr
 d25:FuncData
 a26:Addr
 d26:FuncData
 a27:Addr
 d27:FuncData
 a28:Addr
 d28:FuncData
 a29:Addr
 d29:FuncData
 a30:Addr
 d30:FuncData
 a31:Addr
 d31:FuncData
 a32:Addr
 d32:FuncData
 a33:Addr
 d33:FuncData
 a34:Addr
 d34:FuncData
 a35:Addr
 d35:FuncData
 a36:Addr
 d36:FuncData
 a37:Addr
 d37:FuncData
 a38:Addr
 d38:FuncData
 a39:Addr
 d39:FuncData
 a40:Addr
 d40:FuncData
 a41:Addr
 d41:FuncData
 a42:Addr
 d42:FuncData
 a43:Addr
 d43:FuncData
 a44:Addr
 d44:FuncData
 a45:Addr
 d45:FuncData
 a46:Addr
 d46:FuncData
 a47:Addr
 d47:FuncData
 a48:Addr
 d48:FuncData
 a49:Addr
 d49:FuncData
 a50:Addr
 d50:FuncData
 a51:Addr
 d51:FuncData
 a52:Addr
 d52:FuncData
 a53:Addr
 d53:FuncData
 a54:Addr
 d54:FuncData
 a55:Addr
 d55:FuncData
 a56:Addr
 d56:FuncData
 a57:Addr
 d57:FuncData
 a58:Addr
 d58:FuncData
 a59:Addr
 d59:FuncData
 a60:Addr
 d60:FuncData
 a61:Addr
 d61:FuncData
 a62:Addr
 d62:FuncData
 a63:Addr
 d63:FuncData
 a64:Addr
 d64:FuncData
 a65:Addr
 d65:FuncData
 a66:Addr
 d66:FuncData
 a67:Addr
 d67:FuncData
 a68:Addr
 d68:FuncData
 a69:Addr
 d69:FuncData
 a70:Addr
 d70:FuncData
 a71:Addr
 d71:FuncData
 a72:Addr
 d72:FuncData
 a73:Addr
 d73:FuncData
 a74:Addr
 d74:FuncData
 a75:Addr
 d75:FuncData
 a76:Addr
 d76:FuncData
 a77:Addr
 d77:FuncData
 a78:Addr
 d78:FuncData
 a79:Addr
 d79:FuncData
 a80:Addr
 d80:FuncData
 a81:Addr
 d81:FuncData
 a82:Addr
 d82:FuncData
 a83:Addr
 d83:FuncData
 a84:Addr
 d84:FuncData
 a85:Addr
 d85:FuncData
 a86:Addr
 d86:FuncData
 a87:Addr
 d87:FuncData
 a88:Addr
 d88:FuncData
 a89:Addr
 d89:FuncData
 a90:Addr
 d90:FuncData
 a91:Addr
 d91:FuncData
 a92:Addr
 d92:FuncData
 a93:Addr
 d93:FuncData
 a94:Addr
 d94:FuncData
 a95:Addr
 d95:FuncData
 a96:Addr
 d96:FuncData
 a97:Addr
 d97:FuncData
 a98:Addr
 d98:FuncData
 a99:Addr
 d99:FuncData
 a100:Addr
 d100:FuncData
 a101:Addr
 d101:FuncData
 a102:Addr
 d102:FuncData
 a103:Addr
 d103:FuncData
 a104:Addr
 d104:FuncData
 a105:Addr
 d105:FuncData
 a106:Addr
 d106:FuncData
 a107:Addr
 d107:FuncData
 a108:Addr
 d108:FuncData
 a109:Addr
 d109:FuncData
 a110:Addr
 d110:FuncData
 a111:Addr
 d111:FuncData
 (zaN zj zB zf zh zi zG zH zR zQ zaO zc za zb:Addr)
 (zao zap zan zaq zar zaP:Tok)
 (zD zt zo zC zx:Addr)
structure Txt(P:Program)(w:World)(K:W.Frag)(mg:Str->Option Value)(t:Adr):Prop where
 q0:Tp K mg "is_letter" S0 ["sign"] t.a0 t.d0
 q1:Tp K mg "is_name" S1 ["text"] t.a1 t.d1
 q2:Tp K mg "parts_of" S2 ["tree"] t.a2 t.d2
 q3:Tp K mg "layer_below" S3 ["layer"] t.a3 t.d3
 q4:Tp K mg "depth" S4 ["tree"] t.a4 t.d4
 q5:Tp K mg "names_in" S5 ["tree"] t.a5 t.d5
 q6:Tp K mg "bit_at" S6 ["number","place"] t.a6 t.d6
 q7:Tp K mg "last_world" S7 ["worlds"] t.a7 t.d7
 q8:Tp K mg "need_names" S8 ["names","tree"] t.a8 t.d8
 q9:Tp K mg "sides" S9 ["tree","of_names","every"] t.a9 t.d9
 q10:Tp K mg "turned_about" S10 ["side"] t.a10 t.d10
 q11:Tp K mg "joined" S11 ["kind","left","right"] t.a11 t.d11
 q12:Tp K mg "full" S12 ["names"] t.a12 t.d12
 q13:Tp K mg "worlds_with" S13 ["names","place"] t.a13 t.d13
 q14:Tp K mg "sides_of_names" S14 ["names","known_ones"] t.a14 t.d14
 q15:Tp K mg "table" S15 ["names","tree"] t.a15 t.d15
 q16:Tp K mg "breaking" S16 ["names","tree"] t.a16 t.d16
 q17:Tp K mg "flat" S17 ["names"] t.a17 t.d17
 q18:Tp K mg "least_rank" S18 ["ranks","worlds"] t.a18 t.d18
 q19:Tp K mg "firmness" S19 ["mind","tree"] t.a19 t.d19
 q20:Tp K mg "held" S20 ["mind","tree"] t.a20 t.d20
 q21:Tp K mg "both_leasts" S21 ["mind","tree"] t.a21 t.d21
 q22:Tp K mg "leaning" S22 ["mind","tree"] t.a22 t.d22
 q24:Tp K mg "need_alike" S24 ["minds"] t.a24 t.d24
 q26:Tp K mg "is_nearest_in_all" S26 ["minds","world"] t.a26 t.d26
 q27:Tp K mg "common" S27 ["minds"] t.a27 t.d27
 q28:Tp K mg "turned" S28 ["mind","tree","lean"] t.a28 t.d28
 q29:Tp K mg "given_up" S29 ["mind","tree"] t.a29 t.d29
 q30:Tp K mg "taken_on" S30 ["mind","tree","firm"] t.a30 t.d30
 q31:Tp K mg "nearest" S31 ["ranks","worlds"] t.a31 t.d31
 q32:Tp K mg "lost" S32 ["mind","tree","others"] t.a32 t.d32
 q33:Mp K t.zc "__init__" "Log.__init__" S33 ["self","names"] t.a33 t.d33
 q34:Mp K t.zc "stand" "Log.stand" S34 ["self","behind"] t.a34 t.d34
 q35:Mp K t.zc "take" "Log.take" S35 ["self","tree","firm"] t.a35 t.d35
 q36:Mp K t.zc "give" "Log.give" S36 ["self","tree"] t.a36 t.d36
 q37:Mp K t.zc "turn" "Log.turn" S37 ["self","tree","lean"] t.a37 t.d37
 q41:Mp K t.zc "mind" "Log.mind" S41 ["self"] t.a41 t.d41
 q45:Tp K mg "words_of" S45 ["text"] t.a45 t.d45
 q46:Tp K mg "leaf" S46 ["word"] t.a46 t.d46
 q47:Tp K mg "takes_part" S47 ["earlier","later"] t.a47 t.d47
 q48:Mp K t.za "__init__" "Unfinished.__init__" S48 ["self"] t.a48 t.d48
 q49:Mp K t.za "begin_part" "Unfinished.begin_part" S49 ["self","word"] t.a49 t.d49
 q50:Mp K t.za "follow_part" "Unfinished.follow_part" S50 ["self","word"] t.a50 t.d50
 q51:Mp K t.za "fold" "Unfinished.fold" S51 ["self"] t.a51 t.d51
 q52:Mp K t.za "fold_to_bracket" "Unfinished.fold_to_bracket" S52 ["self"] t.a52 t.d52
 q53:Mp K t.za "close_bracket" "Unfinished.close_bracket" S53 ["self"] t.a53 t.d53
 q54:Mp K t.za "whole" "Unfinished.whole" S54 ["self"] t.a54 t.d54
 q55:Tp K mg "tree_of_words" S55 ["words"] t.a55 t.d55
 q56:Tp K mg "read" S56 ["text"] t.a56 t.d56
 q57:Tp K mg "rows_in" S57 ["text"] t.a57 t.d57
 q58:Tp K mg "words_in" S58 ["text"] t.a58 t.d58
 q59:Tp K mg "first_word" S59 ["text"] t.a59 t.d59
 q60:Tp K mg "behind_first_word" S60 ["text"] t.a60 t.d60
 q61:Tp K mg "is_figure" S61 ["sign"] t.a61 t.d61
 q62:Tp K mg "number_in" S62 ["word"] t.a62 t.d62
 q63:Tp K mg "number_above_0" S63 ["word"] t.a63 t.d63
 q64:Tp K mg "lean_in" S64 ["word"] t.a64 t.d64
 q65:Tp K mg "names_form" S65 ["text"] t.a65 t.d65
 q66:Tp K mg "numbered_form" S66 ["number","text"] t.a66 t.d66
 q67:Tp K mg "take_form" S67 ["text"] t.a67 t.d67
 q68:Tp K mg "lean_form" S68 ["text"] t.a68 t.d68
 q69:Tp K mg "sentence_form" S69 ["text"] t.a69 t.d69
 q70:Tp K mg "lost_form" S70 ["text"] t.a70 t.d70
 q71:Tp K mg "keep_form" S71 ["text"] t.a71 t.d71
 q73:Tp K mg "bare_form" S73 ["text"] t.a73 t.d73
 q74:Tp K mg "form_of" S74 ["row"] t.a74 t.d74
 q75:Mp K t.zb "__init__" "Course.__init__" S75 ["self","names"] t.a75 t.d75
 q76:Tp K mg "do_take" S76 ["course","firm","trees"] t.a76 t.d76
 q77:Tp K mg "do_give" S77 ["course","told","trees"] t.a77 t.d77
 q78:Tp K mg "do_lean" S78 ["course","lean","trees"] t.a78 t.d78
 q82:Tp K mg "shown_world" S82 ["names","world"] t.a82 t.d82
 q83:Tp K mg "answer_ask" S83 ["mind","trees"] t.a83 t.d83
 q84:Tp K mg "answer_lost" S84 ["mind","trees"] t.a84 t.d84
 q85:Tp K mg "answer_worlds" S85 ["mind","trees"] t.a85 t.d85
 q86:Tp K mg "do_row" S86 ["course","form"] t.a86 t.d86
 q87:Tp K mg "lacks_a_mind" S87 ["course","form"] t.a87 t.d87
 q88:Tp K mg "word_against" S88 ["course","form"] t.a88 t.d88
 q89:Tp K mg "names_told" S89 ["rows"] t.a89 t.d89
 q90:Tp K mg "run" S90 ["text"] t.a90 t.d90
 q91:Tp K mg "_law_cell_at" S91 ["_law_script","_law_k"] t.a91 t.d91
 q92:Tp K mg "_law_whole" S92 ["_law_found"] t.a92 t.d92
 q93:Tp K mg "_law_mixed" S93 ["_law_cell","_law_k"] t.a93 t.d93
 q94:Tp K mg "_law_names_by" S94 ["_law_cell","_law_many"] t.a94 t.d94
 q95:Tp K mg "_law_tree_by" S95 ["_law_names","_law_cell","_law_deep"] t.a95 t.d95
 q96:Tp K mg "_law_column" S96 ["_law_many","_law_place"] t.a96 t.d96
 q97:Tp K mg "_law_table" S97 ["_law_names","_law_tree"] t.a97 t.d97
 q98:Tp K mg "_law_is_mind" S98 ["_law_found","_law_names"] t.a98 t.d98
 q99:Tp K mg "_law_written" S99 ["_law_tree"] t.a99 t.d99
 q100:Tp K mg "_law_sides" GK ["_law_ranks","_law_told"] t.a100 t.d100
 q101:Tp K mg "_law_run_fits" GP ["_law_found","_law_answers","_law_deeds"] t.a101 t.d101
 q102:Tp K mg "_law_told_names" GQ ["_law_script"] t.a102 t.d102
 q103:Tp K mg "_law_world_text" GR ["_law_names","_law_world"] t.a103 t.d103
 q104:Tp K mg "_law_worlds_text" GX ["_law_mind"] t.a104 t.d104
 q105:Tp K mg "_law_ask_fits" GZ ["_law_mind","_law_tree","_law_answer"] t.a105 t.d105
 q106:Tp K mg "_law_lost_fits" Hc ["_law_mind","_law_tree","_law_other","_law_answer"] t.a106 t.d106
 q107:Tp K mg "_law_deed_rows" Hd ["_law_names","_law_script"] t.a107 t.d107
 q108:Tp K mg "_law_question" Hf ["_law_names","_law_cell","_law_k"] t.a108 t.d108
 q109:Tp K mg "_law_question_row" Hg ["_law_question_here"] t.a109 t.d109
 q110:Tp K mg "_law_answer_fits" Hh ["_law_mind","_law_question_here","_law_answer"] t.a110 t.d110
 q111:Tp K mg "law" Hi ["_law_script"] t.a111 t.d111
 zu:mg "NoSentence"=some (.ref t.zj)
 zal:catches K t.zj=true
 zy:W.excIn K t.zj bmV "ValueError.__new__"=true
 zW:mg "TooDeep"=some (.ref t.zB)
 zam:catches K t.zB=true
 zag:W.excIn K t.zB bmV "ValueError.__new__"=true
 zV:mg "NoName"=some (.ref t.zf)
 zak:catches K t.zf=true
 zaf:W.excIn K t.zf bmV "ValueError.__new__"=true
 zI:mg "Always"=some (.ref t.zh)
 zS:catches K t.zh=true
 zac:W.excIn K t.zh bmV "ValueError.__new__"=true
 zaa:under K t.zh t.zh=true
 zK:mg "Never"=some (.ref t.zi)
 zT:catches K t.zi=true
 zad:W.excIn K t.zi bmV "ValueError.__new__"=true
 zaM:under K t.zi t.zh=false
 zab:under K t.zi t.zi=true
 zaD:mg "NoMinds"=some (.ref t.zG)
 zae:W.excIn K t.zG bmV "ValueError.__new__"=true
 zaF:mg "Unlike"=some (.ref t.zH)
 zah:W.excIn K t.zH bmV "ValueError.__new__"=true
 zaC:mg "NoBack"=some (.ref t.zR)
 zaj:catches K t.zR=true
 zaB:mg "NoAgain"=some (.ref t.zQ)
 zai:catches K t.zQ=true
 zay:mg "Log"=some (.ref t.zc)
 zg:Cls K t.zc
 zaH:Mk K t.zc t.a33
 zP:NoAttr K t.zc "standing"
 zZ:NoAttr K t.zc "taken_back"
 zaE:mg "Unfinished"=some (.ref t.za)
 ze:Cls K t.za
 zaI:Mk K t.za t.a48
 zw:NoAttr K t.za "trees"
 zl:NoAttr K t.za "signs"
 zas:mg "Course"=some (.ref t.zb)
 zk:Cls K t.zb
 zaG:Mk K t.zb t.a75
 zz:NoAttr K t.zb "log"
 zaL:NoAttr K t.zb "kept"
 zN:NoAttr K t.zb "answers"
 zO:NoAttr K t.zb "minds_behind"
 zaw:mg "LONGEST_NAME"=some (.int 8 t.zao)
 zax:mg "LONGEST_TEXT"=some (.int 200 t.zap)
 zau:mg "GREATEST_DEPTH"=some (.int 40 t.zan)
 zaz:mg "MOST_FIGURES"=some (.int 30 t.zaq)
 zaA:mg "MOST_NAMES"=some (.int 8 t.zar)
 zav:mg "KINDS"=some (.ref t.zD)
 zD:MdK P w K t.zD [(.inr "&",.str "and"),(.inr "|",.str "or"),(.inr ">",.str "then"),(.inr "=",.str "same")]
 zJ:mg "BINDS"=some (.ref t.zt)
 zt:MdK P w K t.zt [(.inr "&",.int 4),(.inr "|",.int 3),(.inr ">",.int 2),(.inr "=",.int 1)]
 zE:mg "FORMS"=some (.ref t.zo)
 zo:MdK P w K t.zo [(.inr "names",.ref t.a65),(.inr "take",.ref t.a67),(.inr "give",.ref t.a69),(.inr "lean",.ref t.a68),(.inr "keep",.ref t.a71),(.inr "pour",.ref t.a72),(.inr "back",.ref t.a73),(.inr "again",.ref t.a73),(.inr "ask",.ref t.a69),(.inr "lost",.ref t.a70),(.inr "worlds",.ref t.a73)]
 zat:mg "DEEDS"=some (.ref t.zC)
 zC:MdK P w K t.zC [(.inr "take",.ref t.a76),(.inr "give",.ref t.a77),(.inr "lean",.ref t.a78),(.inr "pour",.ref t.a79),(.inr "back",.ref t.a80),(.inr "again",.ref t.a81)]
 zU:mg "ANSWERS"=some (.ref t.zx)
 zx:MdK P w K t.zx [(.inr "ask",.ref t.a83),(.inr "lost",.ref t.a84),(.inr "worlds",.ref t.a85)]
 zF:mg "all"=none
 zaJ:mg "bool"=none
 zm:mg "enumerate"=none
 zL:mg "int"=none
 zq:mg "isinstance"=none
 zd:mg "len"=none
 zM:mg "list"=none
 zX:mg "max"=none
 zA:mg "min"=none
 zp:mg "range"=none
 zaK:mg "sorted"=none
 zr:mg "str"=none
 zY:mg "sum"=none
 zn:mg "tuple"=none
 bl:∀(s:Shared) (u:Value),BindsTo s t.d111 ⟨[u],[]⟩ [("_law_script",u)]
end K62
seal L2.PE L2.PT L2.PW L2.PA L2.PS L2.PSs L2.PG L2.PGs L2.PI L2.PC L2.PO L2.PTs
open PyProof.Rows
namespace K62
open PySem L2 Mc
inductive spCell(K:W.Frag)(vs:List V)(H:Hp)(Q:VK)(E:XK):Prop
 |mk (a:Addr) (ns:List Int) (k:Int) (_:vs=[.ref a,.int k]) (_:SqL K H a (ns.map V.int)) (_:0<=k) (_:Q (.int (ns.getD k.toNat 0)) H)
section
variable{P:Program}{w:World}{K:W.Frag}{mg:Str->Option Value}{base:Heap}{t:Adr}
abbrev FO(P:Program)(w:World)(K:W.Frag)(mg:Str->Option Value)(base:Heap):=FnOk P w K mg base (CX1 P w)
theorem Mu:FnScope ["_law_script","_law_k"] ["_law_script","_law_k"] (aB S91):=mkS
theorem yK(T:Txt P w K mg t):FO P w K mg base 1 t.a91 t.d91 ["_law_script","_law_k"] (spCell K):=by
 refine T.q91.F.ok2 Mu (fun cdv A outer s H vs Q E hr h=>?_);obtain⟨a,ns,k,rfl,hS,hk,q⟩:=h
 refine⟨_,(ao (aV (aH lB (pvl 1) (aZ aX T.zd Bt.len (aa (pvl 0) aj)) (aN _))
    (aq (aA (pix cg (pvl 0) (pvl 1))))
    aP)
   (aq (aA ak))),?_⟩
 refine⟨_,rfl,_,rfl,a,_,rfl,.inl hS,_,_,rfl,rfl,_,rfl,?_⟩;refine aU (fun e=>?_) (fun e=>?_)
 . have e:k<((ns.map V.int).length:Nat):=qod e
   rw[qlm]at e;refine⟨_,rfl,_,rfl,a,_,k,.int (ns.getD k.toNat 0),rfl,rfl,hS,qH hk ?_,q⟩;rw[qgm];have:k.toNat<ns.length:=by omega
   rw[List.getElem?_eq_getElem this];simp[List.getD,List.getElem?_eq_getElem this]
 . have e:¬ k<((ns.map V.int).length:Nat):=fun z=>e (qdt z)
   rw[qlm]at e
   have z:ns.getD k.toNat 0=0:=by
    rw[List.getD,List.getElem?_eq_none (by omega)]
    rfl
   rw[z]at q;exact q
theorem lkB{n:Nat}(h:n<=100000):n<=sizeLine:=qnt h (by decide)
theorem m9(o:Op):¬ o.str=("yes":Str)/\¬ o.str=("no":Str)/\¬ o.str=("not":Str)/\¬ o.str=("name":Str):=by cases o <;> decide +kernel
theorem Jp {t:Tr} (h:V.str t.tag=V.str ("name":Str)):∃ x,t = .nm x:=by
 have:=(kI t).mp (V.str.inj h);cases t <;> first|exact⟨_,rfl⟩|cases this
theorem DG {t:Tr} (h:V.str t.tag=V.str ("yes":Str)):t = .yes:=by
 have h:=V.str.inj h;cases t with
 |yes=>rfl
 |nm x=>exact absurd (show("name":Str)="yes" from h) (by decide +kernel)
 |no=>exact absurd (show("no":Str)="yes" from h) (by decide +kernel)
 |not u=>exact absurd (show("not":Str)="yes" from h) (by decide +kernel)
 |bin o a b=>exact absurd (show o.str=("yes":Str)from h) (m9 o).1
theorem Jq {t:Tr} (h:V.str t.tag=V.str ("no":Str)):t = .no:=by
 have h:=V.str.inj h;cases t with
 |no=>rfl
 |nm x=>exact absurd (show("name":Str)="no" from h) (by decide +kernel)
 |yes=>exact absurd (show("yes":Str)="no" from h) (by decide +kernel)
 |not u=>exact absurd (show("not":Str)="no" from h) (by decide +kernel)
 |bin o a b=>exact absurd (show o.str=("no":Str)from h) (m9 o).2.1
theorem pX{o o':Op}(h:V.str o.str=V.str o'.str):o=o':=by
 have h:=V.str.inj h;cases o <;> cases o' <;> first|rfl|exact absurd h (by decide +kernel)
theorem Bh{H:Hp}{a:Addr}{o:Op}{x y:Tr}(h:TrAt H (.ref a) (.bin o x y)):∃ v u,H a=some (.tup [.str o.str,v,u])/\TrAt H v x/\TrAt H u y:=by
 cases h with
 |bin e h1 h2=>exact⟨_,_,e,h1,h2⟩
theorem Bj{H:Hp}{a:Addr}{x:Tr}(h:TrAt H (.ref a) (.not x)):∃ v,H a=some (.tup [.str "not",v])/\TrAt H v x:=by
 cases h with
 |not e h1=>exact⟨_,e,h1⟩
theorem Hj{H:Hp}{a:Addr}{x:Str}(h:TrAt H (.ref a) (.nm x)):H a=some (.tup [.str "name",.str x]):=by
 cases h with
 |nm e=>exact e
inductive spParts(vs:List V)(H:Hp)(Q:VK)(E:XK):Prop
 |mk (v t) (_:vs=[v]) (_:TrAt H v t) (_:∀(l:Addr)(us:List V)(H':Hp),H l=none->H' l=some (.lst us)->Same H H'->Paired (TrAt H') us t.kids->Q (.ref l) H')
inductive spBelow(vs:List V)(H:Hp)(Q:VK)(E:XK):Prop
 |mk (a:Addr) (us:List V) (ts:List Tr) (_:vs=[.ref a]) (_:H a=some (.lst us)) (_:Paired (TrAt H) us ts) (_:du ts<=100000) (_:∀(l:Addr)(ws:List V)(H':Hp),H l=none->H' l=some (.lst ws)->Same H H'->Paired (TrAt H') ws (ts.flatMap Tr.kids)->Q (.ref l) H')
inductive spDepth(vs:List V)(H:Hp)(Q:VK)(E:XK):Prop
 |mk (v t) (_:vs=[v]) (_:TrAt H v t) (_:t.size<=100000) (_:∀ H',Same H H'->Q (.int t.depth) H')
theorem scParts:FnScope ["tree"] ["tree"] (aB S2):=mkS
theorem Hk(T:Txt P w K mg t):FO P w K mg base 1 t.a2 t.d2 ["tree"] spParts:=by
 refine T.q2.F.ok2 scParts (fun cdv A outer s H vs Q E hr h=>?_);obtain⟨v,tr,rfl,ht,k⟩:=h;obtain⟨a,rest,rfl,ha,hnm,hkid⟩:=ht.open;have nd:=scParts.nd
 refine⟨_,(ao (aV (aH aW (pix aK (pv 0) ak) az (aN _))
    (aq (aA (bF aj)))
    aP)
   (aq (aA (uB v9 rfl T.zM Bt.list (aa (ie Lq (pv 0) (iD ak) jY) aj))))),?_⟩
 refine⟨_,rfl,a,_,0,.str tr.tag,rfl,rfl,SqT.of ha,b8 (j:=0) rfl,rfl,_,rfl,?_⟩;refine aU (fun e=>?_) (fun e=>?_)
 . have e:V.str tr.tag=V.str "name":=qod e
   have e:=(kI tr).mp (V.str.inj e);obtain⟨x,rfl,_⟩:=hnm e;exact⟨qnz _,fun l hl=>k l [] _ hl au (aD hl) .nil⟩
 . have e:¬ V.str tr.tag=V.str "name":=fun z=>e (qdt z)
   have e:tr.isNm=false:=by
    cases q:tr.isNm with
    |false=>rfl
    |true=>exact absurd (congrArg V.str ((kI tr).mpr q)) e
   have hk:=hkid e;refine⟨_,rfl,_,rfl,a,_,rfl,SqT.of ha,wK _ _,fun p hp=>⟨p,_,rfl,.inr (SqT.of au),fun l hl=>?_⟩⟩;rw[GC]at hl ⊢;exact k l rest _ (Dv (aD hp) hl) au ((aD hp).trans (aD hl)) (cP ((aD hp).trans (aD hl)).tups hk)
theorem scBelow:FnScope ["layer","below","tree"] ["layer"] (aB S3):=mkS
theorem wM(T:Txt P w K mg t):FO P w K mg base 2 t.a3 t.d3 ["layer"] spBelow:=by
 refine T.q3.F.ok2 scBelow (fun cdv A outer s H vs Q E hr h=>?_);obtain⟨a,us,ts,rfl,ha,hp,hsz,k⟩:=h;have nd:=scBelow.nd;have G2:=Hk (base:=base) T
 refine⟨_,(ao (iM (i:=1) nd rfl (by first|exact Or.inl rfl|exact Or.inr rfl) (bF aj))
   (ao (dU own1 rfl (cZ (pv 0)) (tG (i:=2) nd rfl (by first|exact Or.inl rfl|exact Or.inr rfl))
    (aq (bA (bW PySem.F.plainAttrs_list PySem.F.slot_list_extend PySem.F.type_list_extend CJ (pv 1) (aa (pQ G2 (hr.mo) rfl T.q2.m T.q2.k T.q2.b .nil aJ (aa (pv 2) aj)) aj)))))
   (aq (aA (pv 1))))),?_⟩
 refine⟨qnz _,fun b hb=>?_⟩;have hab:a≠b:=aM ha hb;have s0:Same H (upd H b (.lst [])):=aD hb
 refine⟨_,rfl,a,rfl,⟨_,SqL.of (s0 _ _ ha)⟩,gw (K:=K) (a:=a) (xs:=us)
  (fun i σ H2=>∃(ws:List V)(v:Option V),σ=[some (.ref a),some (.ref b),v]/\Same H H2/\H2 b=some (.lst ws)/\Paired (TrAt H2) ws ((ts.take i).flatMap Tr.kids))
  ⟨[],none,rfl,s0,au,.nil⟩ (fun i σ H2 _ ⟨_,_,_,s2,_⟩=>SqL.of (s2 _ _ ha)) ?_ ?_⟩
 . rintro i y σ H2 hi ⟨ws,v,rfl,s2,hb2,hw⟩
   obtain⟨tr,htr,hy⟩:=bQ hp i y hi;refine⟨_,rfl,.inl ⟨rfl,_,SqL.of hb2⟩,_,rfl,y,tr,rfl,hy.mono s2.tups,fun l us2 H3 hl hl3 s3 hk3=>?_⟩
   have hlen:ws.length+us2.length<=100000:=by
    have e1:=Paired.length hw;have e2:=Paired.length hk3
    have hsplit:ts=ts.take i++tr::ts.drop (i+1):=by
     have h1:=List.take_append_drop i ts
     have h2:ts.drop i=tr::ts.drop (i+1):=by
      obtain⟨hlt,he⟩:=List.getElem?_eq_some_iff.mp htr;rw[List.drop_eq_getElem_cons hlt,he]
     rw[<- h2,h1]
    have e3:=jy ts;have e4:(ts.flatMap Tr.kids).length <= du (ts.flatMap Tr.kids):=rR _
    have e5:(ts.flatMap Tr.kids).length=((ts.take i).flatMap Tr.kids).length+(tr.kids.length+((ts.drop (i+1)).flatMap Tr.kids).length):=by
     conv=>lhs;rw[hsplit]
     rw[List.flatMap_append,List.flatMap_cons,List.length_append,List.length_append]
    omega
   have hbl:b≠l:=aM hb2 hl;have hb3:H3 b=some (.lst ws):=s3 _ _ hb2;refine⟨b,l,ws,us2,rfl,rfl,hb3,hl3,qnt hlen (by decide),?_⟩;refine⟨ws++us2,_,rfl,fun c o e=>?_,au,?_⟩
   . rw[aF (fun z=>by subst z;rw[hb]at e;cases e)]
     exact s3 _ _ (s2 _ _ e)
   . have e6:ts.take (i+1)=ts.take i++[tr]:=by
      rw[qta,htr]
      rfl
     rw[e6,List.flatMap_append,List.flatMap_cons,List.flatMap_nil,List.append_nil];exact cP (wL hb3) (dM (cP s3.tups hw) hk3)
 . rintro σ H2 ⟨ws,v,rfl,s2,hb2,hw⟩
   refine⟨_,rfl,?_⟩;have e:=Paired.length hp;rw[e,List.take_length]at hw;exact k b ws H2 hb hb2 s2 hw
inductive spNames(vs:List V)(H:Hp)(Q:VK)(E:XK):Prop
 |mk (v t) (_:vs=[v]) (_:TrAt H v t) (_:t.size<=100000) (_:(∃ L:List Str,L.length<64/\∀ x∈t.names,x∈L)) (_:∀(l:Addr)(ys:List Str)(H':Hp),H l=none->H' l=some (.lst (ys.map V.str))->Same H H'->sortedS ys=true->ys.Nodup->(∀ x,x∈ys↔x∈t.names)->Q (.ref l) H')
theorem scNames:FnScope ["tree","found","layer","part"] ["tree"] (aB S5):=mkS
theorem Hl(T:Txt P w K mg t):FO P w K mg base 3 t.a5 t.d5 ["tree"] spNames:=by
 refine T.q5.F.ok2 scNames (fun cdv A outer s H vs Q E hr h=>?_);obtain⟨v,tr,rfl,ht,hsz,⟨L,hL,hsub⟩,k⟩:=h;have nd:=scNames.nd;have hu:=gF hr;have G3:=wM (base:=base) T
 refine ⟨_,(ao (iM (i:=1) nd rfl (by first|exact Or.inl rfl|exact Or.inr rfl) qF)
   (ao (iM (i:=2) nd rfl (by first|exact Or.inl rfl|exact Or.inr rfl) (bF (aa (pv 0) aj)))
   (ao (j8 own1 (g8 (pv 2) (fun _=>rfl))
    (ao (dU own1 rfl (cZ (pv 2)) (tG (i:=3) nd rfl (by first|exact Or.inl rfl|exact Or.inr rfl))
     (aq (aV (aH aW (pix aK (pv 3) ak) az (aN _))
      (aq (tM hu (pv 1) (pix aK (pv 3) ak) eQ rfl))
      aP)))
    (aq (iM (i:=2) nd rfl (by first|exact Or.inl rfl|exact Or.inr rfl) (pQ G3 (hr.mo) rfl T.q3.m T.q3.k T.q3.b .nil aJ (aa (pv 2) aj))))))
   (aq (aA (v6 (wz rfl) rfl T.zaK Bt.sorted (aa (pv 1) aj))))))),?_⟩
 intro d hd;refine⟨_,rfl,(lk (by first|exact qnb rfl|simp)),fun l hl=>?_⟩;have hdl:d≠l:=fun z=>by subst z;rw[au]at hl;cases hl
 have hl0:H l=none:=(aD hd).free hl
 let St0:Nat->L2.St->Hp->Prop:=fun m σ H2=>∃(l:Addr)(us:List V)(ts:List Tr)(kvs:List (Key×V))(ys:List Str)(pv:Option V),σ=[some v,some (.ref d),some (.ref l),pv]/\Same H H2/\H2 l=some (.lst us)/\Paired (TrAt H2) us ts/\du ts<=100000 /\
  H2 d=some (.dK kvs)/\kvs.map (·.1)=ys.map Sum.inr/\ys.Nodup/\(∀ x,x∈tr.names↔x∈ys\/x∈cX ts)/\m=du ts
 have hys:∀{ys:List Str},ys.Nodup->(∀ x∈ys,x∈tr.names)->ys.length<64:=fun {ys} h1 h2=>Nat.lt_of_le_of_lt (kJ h1 fun x hx=>hsub x (h2 x hx)) hL
 refine⟨St0,⟨_,l,[v],[tr],[],[],none,rfl,(aD hd).trans (aD hl),au,.cons (ht.mono ((aD hd).trans (aD hl)).tups) .nil,?_,?_,rfl,List.nodup_nil,?_,rfl⟩,?_⟩
 . show tr.size+0<=100000
   omega
 . rw[aF hdl,au]
 . intro x
   simp[cX]
 rintro m σ H2 ⟨l,us,ts,kvs,ys,pv,rfl,s2,hl2,hp,hz,hd2,hk,hnd,hmem,rfl⟩;refine⟨_,rfl,_,.inl ⟨us,SqL.of hl2,rfl⟩,?_⟩;cases us with
 | nil =>
  cases hp;refine bz ?_
  have hmem':∀ x,x∈tr.names↔x∈ys:=fun x=>by
   have:=hmem x
   simpa[cX]using this
  refine⟨_,rfl,d,kvs,ys,rfl,hd2,hk,hys hnd fun x hx=>(hmem' x).mpr hx,fun l' ys' hl' hp' hs'=>?_⟩;exact k l' ys' _ (s2.free hl') au (s2.trans (aD hl')) hs' (hp'.nodup_iff.mpr hnd) fun x=>by rw[hp'.mem_iff,hmem' x]
 | cons u us =>
  refine bT ?_;refine⟨fun σ' H'=>∃ m',m'<du ts/\St0 m' σ' H',fun _ _ h=>h,?_⟩
  have hne:ts≠[]:=by
   intro z;subst z;cases hp
  have hlp:=Paired.length hp;have hld:l≠d:=fun z=>by subst z;rw[hl2]at hd2;cases hd2
  refine⟨_,rfl,l,rfl,⟨_,SqL.of hl2⟩,gw (K:=K) (a:=l) (xs:=u::us)
   (fun i σ H3=>∃(kvs:List (Key×V))(zs:List Str)(pv:Option V),σ=[some v,some (.ref d),some (.ref l),pv]/\(∀ b o,H2 b=some o->b≠d->H3 b=some o)/\H3 d=some (.dK kvs)/\kvs.map (·.1)=zs.map Sum.inr/\zs.Nodup /\
    (∀ x,x∈zs↔x∈ys\/Tr.nm x∈ts.take i))
   ⟨kvs,ys,pv,rfl,fun _ _ h _=>h,hd2,hk,hnd,fun x=>by simp⟩ (fun i σ H3 _ ⟨_,_,_,_,s3,_⟩=>SqL.of (s3 _ _ hl2 hld)) ?_ ?_⟩
  . rintro i y σ H3 hi ⟨kvs,zs,pv,rfl,s3,hd3,hk3,hn3,hm3⟩
    obtain⟨ty,hty,hy⟩:=bQ hp i y hi;obtain⟨a,rest,rfl,ha,hnm,hkid⟩:=hy.open;have had:a≠d:=fun z=>by subst z;rw[ha]at hd2;cases hd2
    have ha3:=s3 _ _ ha had
    have e6:ts.take (i+1)=ts.take i++[ty]:=by
     rw[qta,hty]
     rfl
    have hin:∀ x,Tr.nm x∈ts.take (i+1)->x∈tr.names:=fun x hx=>(hmem x).mpr (.inr ((oO ts x).mpr (.inl (List.mem_of_mem_take hx))))
    refine⟨_,rfl,a,_,0,.str ty.tag,rfl,rfl,SqT.of ha3,b8 (j:=0) rfl,rfl,_,rfl,?_⟩;refine aU (fun e=>?_) (fun e=>?_)
    . have e:V.str ty.tag=V.str "name":=qod e
      have e:=(kI ty).mp (V.str.inj e);obtain⟨x,rfl,rfl⟩:=hnm e
      have hlen:zs.length<64:=hys hn3 fun x hx=>by
       rcases(hm3 x).mp hx with h|h
       . exact(hmem x).mpr (.inl h)
       . exact hin x (by rw[e6];exact qal _ h)
      have hlk:kvs.length=zs.length:=by
       have:=congrArg List.length hk3
       rwa [qlm,qlm]at this
      refine⟨_,rfl,_,rfl,a,_,1,.str x,rfl,rfl,SqT.of ha3,rfl,d,_,rfl,DPut.k (k:=Sum.inr x) hd3 (dO (by omega)),?_⟩;refine⟨_,if x∈zs then zs else zs++[x],_,rfl,fun b o h hb=>?_,au,Dw hk3 x _,?_,fun z=>?_⟩
      . rw[aF hb]
        exact s3 b o h hb
      . split
        . exact hn3
        . exact Bg hn3 (by assumption)
      . rw [e6,List.mem_append,List.mem_singleton,Tr.nm.injEq]
        by_cases hx:x∈zs
        . rw[qp hx,hm3 z]
          constructor
          . rintro(h|h)
            . exact .inl h
            . exact .inr (.inl h)
          . rintro(h|h|h)
            . exact .inl h
            . exact .inr h
            . subst h;exact(hm3 z).mp hx
        . rw[qnZ hx,List.mem_append,List.mem_singleton,hm3 z]
          constructor
          . rintro((h|h)|h)
            . exact .inl h
            . exact .inr (.inl h)
            . exact .inr (.inr h)
          . rintro(h|h|h)
            . exact .inl (.inl h)
            . exact .inl (.inr h)
            . exact .inr h
    . have e:¬ V.str ty.tag=V.str "name":=fun z=>e (qdt z)
      have e:ty.isNm=false:=by
       cases q:ty.isNm with
       |false=>rfl
       |true=>exact absurd (congrArg V.str ((kI ty).mpr q)) e
      refine⟨kvs,zs,_,rfl,s3,hd3,hk3,hn3,fun z=>?_⟩;rw[hm3 z,e6,List.mem_append,List.mem_singleton]
      constructor
      . rintro(h|h)
        . exact .inl h
        . exact .inr (.inl h)
      . rintro(h|h|h)
        . exact .inl h
        . exact .inr h
        . subst h;cases e
  . rintro σ H3 ⟨kvs,zs,pv,rfl,s3,hd3,hk3,hn3,hm3⟩
    have t3:Tups H2 H3:=fun b xs h=>s3 b _ h (fun z=>by subst z;rw[hd2]at h;cases h)
    have hp3:=cP t3 hp;rw[hlp,List.take_length]at hm3;refine⟨_,rfl,l,u::us,ts,rfl,s3 _ _ hl2 hld,hp3,hz,fun l' ws H' hn hl' s' hp'=>?_⟩;have e2:=jy ts;have e3:0<ts.length:=List.length_pos_iff.mpr hne;refine⟨_,by omega,l',ws,ts.flatMap Tr.kids,kvs,zs,_,rfl,fun b o h=>s' b o (s3 b o (s2 b o h) (aM h hd)),hl',hp',by omega,s' _ _ hd3,hk3,hn3,fun x=>?_,rfl⟩;rw[hmem x,hm3 x,oO ts x,or_assoc]
def Two(H:Hp)(a:Addr)(x:Nat×Nat):Prop:=H a=some (.tup [.int x.1,.int x.2])
theorem Two.mono{H H':Hp}{a:Addr}{x:Nat×Nat}(s:Same H H')(h:Two H a x):Two H' a x:=s _ _ h
theorem Two.tups{H H':Hp}{a:Addr}{x:Nat×Nat}(s:Tups H H')(h:Two H a x):Two H' a x:=s _ _ h
inductive spTurnedA(vs:List V)(H:Hp)(Q:VK)(E:XK):Prop
 |mk (a x) (_:vs=[.ref a]) (_:Two H a x) (_:∀ q H',Same H H'->Two H' q (x.2,x.1)->Q (.ref q) H')
inductive spJoined(n:Nat)(vs:List V)(H:Hp)(Q:VK)(E:XK):Prop
 |mk (o a b x y) (_:vs=[.str (Op.str o),.ref a,.ref b]) (_:1<=n) (_:(o = .thn -> 2<=n)) (_:Two H a x) (_:Two H b y) (_:∀ q H',Same H H'->Two H' q (pU o x y)->Q (.ref q) H')
def Tells(H:Hp)(kvs:List (Key×V))(f:Str->Nat×Nat)(xs:List Str):Prop:=∀ x∈xs,∃ q,bY kvs (.inr x)=some (.ref q)/\Two H q (f x)
theorem Tells.mono{H H':Hp}{kvs:List (Key×V)}{f:Str->Nat×Nat}{xs:List Str}(s:Tups H H')(h:Tells H kvs f xs):Tells H' kvs f xs:=fun x hx=>let ⟨q,e,t⟩:=h x hx;⟨q,e,t.tups s⟩
inductive spSides(d:Nat)(vs:List V)(H:Hp)(Q:VK)(E:XK):Prop
 |mk (v tr m kvs f e) (_:vs=[v,.ref m,.int (e:Nat)]) (_:TrAt H v tr) (_:tr.depth<=d) (_:H m=some (.dK kvs)) (_:Tells H kvs f tr.names) (_:∀ q H',Same H H'->Two H' q (cY f e tr)->Q (.ref q) H')
theorem scTurnedA:FnScope ["side"] ["side"] (aB S10):=mkS
theorem rZ(T:Txt P w K mg t):FO P w K mg base 1 t.a10 t.d10 ["side"] spTurnedA:=by
 refine T.q10.F.ok2 scTurnedA (fun cdv A outer s H vs Q E hr h=>?_);obtain⟨a,x,rfl,ha,k⟩:=h;have nd:=scTurnedA.nd;refine⟨_,(aq (aA (bw (aa (pix aK (pvl 0) ak) (aa (pix aK (pvl 0) ak) aj))))),?_⟩;refine⟨_,rfl,a,_,1,.int x.2,rfl,rfl,SqT.of ha,rfl,_,rfl,a,_,0,.int x.1,rfl,rfl,SqT.of ha,rfl,lk (by first|exact qnb rfl|simp),fun q hq=>?_⟩;exact k q _ (aD hq) au
theorem scJoined:FnScope ["kind","left","right","alike","unlike"] ["kind","left","right"] (aB S11):=mkS
theorem uR(T:Txt P w K mg t):∀ n:Nat,FO P w K mg base (n+2) t.a11 t.d11 ["kind","left","right"] (spJoined n)
 | 0=>by
  refine T.q11.F.ok1 scJoined (fun vs H Q E h=>by obtain⟨o,a,b,x,y,rfl,_⟩:=h;rfl) (fun cdv A outer s H vs Q E hr h=>?_);obtain⟨o,a,b,x,y,rfl,h1,_⟩:=h;omega
 | n + 1=>by
  have G11:=uR T n;have G10:=rZ (base:=base) T;refine T.q11.F.ok1 scJoined (fun vs H Q E h=>by obtain⟨o,a,b,x,y,rfl,_⟩:=h;rfl) (fun cdv A outer s H vs Q E hr h=>?_);obtain⟨o,a,b,x,y,rfl,h1,h2,ha,hb,k⟩:=h;have nd:=scJoined.nd
  refine⟨_,(ao (aV (aH aW (pvl 0) az (aN _))
    (aq (aA (bw (aa (aG eX (pix aK (pvl 1) ak) (pix aK (pvl 2) ak)) (aa (aG mW (pix aK (pvl 1) ak) (pix aK (pvl 2) ak)) aj)))))
    aP)
   (ao (aV (aH aW (pvl 0) az (aN _))
    (aq (aA (bw (aa (aG mW (pix aK (pvl 1) ak) (pix aK (pvl 2) ak)) (aa (aG eX (pix aK (pvl 1) ak) (pix aK (pvl 2) ak)) aj)))))
    aP)
   (ao (aV (aH aW (pvl 0) az (aN _))
    (aq (aA (aQ G11 (hr.mo) T.q11.m T.q11.k T.q11.b aJ (aa az (aa (aQ G10 (hr.mo) T.q10.m T.q10.k T.q10.b aJ (aa (pvl 1) aj)) (aa (pvl 2) aj))))))
    aP)
   (ao (psl 3 nd (aG mW (aG eX (pix aK (pvl 1) ak) (pix aK (pvl 2) ak)) (aG eX (pix aK (pvl 1) ak) (pix aK (pvl 2) ak))))
   (ao (psl 4 nd (aG mW (aG eX (pix aK (pvl 1) ak) (pix aK (pvl 2) ak)) (aG eX (pix aK (pvl 1) ak) (pix aK (pvl 2) ak))))
   (aq (aA (bw (aa (pvl 3) (aa (pvl 4) aj)))))))))),?_⟩
  refine⟨_,rfl,rfl,_,rfl,aU (fun c=>?A) (fun c1=>⟨_,rfl,rfl,_,rfl,aU (fun c=>?O) (fun c2=>⟨_,rfl,rfl,_,rfl,aU (fun c=>?T) (fun c3=>?S)⟩)⟩)⟩
  case A =>
   obtain rfl:o = .and:=pX (o':=.and) (qod c);refine⟨_,rfl,a,_,0,.int x.1,rfl,rfl,SqT.of ha,rfl,_,rfl,b,_,0,.int y.1,rfl,rfl,SqT.of hb,rfl,_,_,rfl,rfl,_,rfl,a,_,1,.int x.2,rfl,rfl,SqT.of ha,rfl,_,rfl,b,_,1,.int y.2,rfl,rfl,SqT.of hb,rfl,_,_,rfl,rfl,lk (by first|exact qnb rfl|simp),fun q hq=>?_⟩;exact k q _ (aD hq) (by unfold Two;rw[au];simp only[band,bor];rfl)
  case O =>
   obtain rfl:o = .or:=pX (o':=.or) (qod c);refine⟨_,rfl,a,_,0,.int x.1,rfl,rfl,SqT.of ha,rfl,_,rfl,b,_,0,.int y.1,rfl,rfl,SqT.of hb,rfl,_,_,rfl,rfl,_,rfl,a,_,1,.int x.2,rfl,rfl,SqT.of ha,rfl,_,rfl,b,_,1,.int y.2,rfl,rfl,SqT.of hb,rfl,_,_,rfl,rfl,lk (by first|exact qnb rfl|simp),fun q hq=>?_⟩;exact k q _ (aD hq) (by unfold Two;rw[au];simp only[band,bor];rfl)
  case T =>
   obtain rfl:o = .thn:=pX (o':=.thn) (qod c);refine⟨_,rfl,a,x,rfl,ha,fun q H1 s1 hq=>⟨_,rfl,.or,q,b,(x.2,x.1),y,rfl,by have:=h2 rfl;omega,(fun z=>by cases z),hq,hb.mono s1,fun q2 H2 s2 hq2=>?_⟩⟩;exact k q2 H2 (s1.trans s2) hq2
  case S =>
   obtain rfl:o = .same:=by
    cases o with
    |and=>exact absurd (qdt rfl) c1
    |or=>exact absurd (qdt rfl) c2
    |thn=>exact absurd (qdt rfl) c3
    |same=>rfl
   refine⟨_,rfl,a,_,0,.int x.1,rfl,rfl,SqT.of ha,rfl,_,rfl,b,_,0,.int y.1,rfl,rfl,SqT.of hb,rfl,_,_,rfl,rfl,_,rfl,a,_,1,.int x.2,rfl,rfl,SqT.of ha,rfl,_,rfl,b,_,1,.int y.2,rfl,rfl,SqT.of hb,rfl,_,_,rfl,rfl,_,_,rfl,rfl,?_⟩;refine⟨_,rfl,a,_,0,.int x.1,rfl,rfl,SqT.of ha,rfl,_,rfl,b,_,1,.int y.2,rfl,rfl,SqT.of hb,rfl,_,_,rfl,rfl,_,rfl,a,_,1,.int x.2,rfl,rfl,SqT.of ha,rfl,_,rfl,b,_,0,.int y.1,rfl,rfl,SqT.of hb,rfl,_,_,rfl,rfl,_,_,rfl,rfl,?_⟩;refine⟨_,rfl,_,rfl,lk (by first|exact qnb rfl|simp),fun q hq=>?_⟩;exact k q _ (aD hq) (by unfold Two;rw[au];simp only[band,bor];rfl)
theorem scSides:FnScope ["tree","of_names","every","kind","left"] ["tree","of_names","every"] (aB S9):=mkS
theorem wN(T:Txt P w K mg t):∀ d:Nat,FO P w K mg base (d+5) t.a9 t.d9 ["tree","of_names","every"] (spSides d)
 | 0=>by
  refine T.q9.F.ok1 scSides (fun vs H Q E h=>by obtain⟨v,tr,m,kvs,f,e,rfl,_⟩:=h;rfl) (fun cdv A outer s H vs Q E hr h=>?_);obtain⟨v,tr,m,kvs,f,e,rfl,ht,hd,k⟩:=h;have:=tr.depth_pos;omega
 | d + 1=>by
  have G9:=wN T d;have G10:=rZ (base:=base) T;have G11:=uR (base:=base) T 2;refine T.q9.F.ok1 scSides (fun vs H Q E h=>by obtain⟨v,tr,m,kvs,f,e,rfl,_⟩:=h;rfl) (fun cdv A outer s H vs Q E hr h=>?_);obtain⟨v,tr,m,kvs,f,e,rfl,ht,hd,hm,htl,k⟩:=h;obtain⟨a,rest,rfl,ha,hnm,hkid⟩:=ht.open;have nd:=scSides.nd;have hu:=gF hr
  refine⟨_,(ao (psl 3 nd (pix aK (pvl 0) ak))
   (ao (aV (aH aW (pvl 3) az (aN _))
    (aq (aA (yw hu (pvl 1) (pix aK (pvl 0) ak) (fun _ _=>rfl))))
    aP)
   (ao (aV (aH aW (pvl 3) az (aN _))
    (aq (aA (bw (aa (pvl 2) (aa ak aj)))))
    aP)
   (ao (aV (aH aW (pvl 3) az (aN _))
    (aq (aA (bw (aa ak (aa (pvl 2) aj)))))
    aP)
   (ao (psl 4 nd (aQ G9 (hr.mo) T.q9.m T.q9.k T.q9.b aJ (aa (pix aK (pvl 0) ak) (aa (pvl 1) (aa (pvl 2) aj)))))
   (ao (aV (aH aW (pvl 3) az (aN _))
    (aq (aA (aQ G10 (hr.mo) T.q10.m T.q10.k T.q10.b aJ (aa (pvl 4) aj))))
    aP)
   (aq (aA (aQ G11 (hr.mo) T.q11.m T.q11.k T.q11.b aJ (aa (pvl 3) (aa (pvl 4) (aa (aQ G9 (hr.mo) T.q9.m T.q9.k T.q9.b aJ (aa (pix aK (pvl 0) ak) (aa (pvl 1) (aa (pvl 2) aj)))) aj)))))))))))),?_⟩
  refine⟨_,rfl,a,_,0,.str tr.tag,rfl,rfl,SqT.of ha,b8 (j:=0) rfl,?_⟩;refine⟨_,rfl,rfl,_,rfl,aU (fun c=>?N) (fun c1=>⟨_,rfl,rfl,_,rfl,aU (fun c=>?Y) (fun c2=>⟨_,rfl,rfl,_,rfl,aU (fun c=>?O) (fun c3=>?R)⟩)⟩)⟩
  case N =>
   obtain⟨x,rfl⟩:=Jp (qod c);obtain⟨q,hq,h2⟩:=htl x qms;refine⟨_,rfl,_,rfl,a,_,1,.str x,rfl,rfl,SqT.of (Hj ht),rfl,m,_,rfl,?_,k q H (Same.refl H) h2⟩;have:=DGet.k (k:=.inr x) hm;rw[hq]at this;exact this
  case Y =>
   obtain rfl:=DG (qod c);exact⟨_,rfl,lk (by first|exact qnb rfl|simp),fun q hq=>k q _ (aD hq) au⟩
  case O =>
   obtain rfl:=Jq (qod c);exact⟨_,rfl,lk (by first|exact qnb rfl|simp),fun q hq=>k q _ (aD hq) au⟩
  case R =>
   cases tr with
   |nm x=>exact absurd (qdt rfl) c1
   |yes=>exact absurd (qdt rfl) c2
   |no=>exact absurd (qdt rfl) c3
   | not u =>
    obtain⟨vu,hau,htu⟩:=Bj ht;have hd:u.depth+1<=d+1:=hd;refine⟨_,rfl,a,_,1,vu,rfl,rfl,SqT.of hau,rfl,_,rfl,_,rfl,vu,u,m,kvs,f,e,rfl,htu,by omega,hm,htl,fun q H1 s1 hq=>?_⟩;refine⟨_,rfl,rfl,_,rfl,aU (fun c=>?_) (fun c4=>absurd (qdt rfl) c4)⟩;exact⟨_,rfl,q,_,rfl,hq,fun q2 H2 s2 hq2=>k q2 H2 (s1.trans s2) hq2⟩
   | bin o x y =>
    obtain⟨vx,vy,hab,htx,hty⟩:=Bh ht;have hd:max x.depth y.depth+1<=d+1:=hd;refine⟨_,rfl,a,_,1,vx,rfl,rfl,SqT.of hab,rfl,_,rfl,_,rfl,vx,x,m,kvs,f,e,rfl,htx,by omega,hm,fun z hz=>htl z (qal _ hz),fun q H1 s1 hq=>?_⟩;refine⟨_,rfl,rfl,_,rfl,aU (fun c=>absurd (V.str.inj (qod c)) (m9 o).2.2.1) (fun c4=>?_)⟩;refine⟨_,rfl,_,rfl,_,rfl,a,_,2,vy,rfl,rfl,SqT.of (s1 _ _ hab),rfl,_,rfl,_,rfl,vy,y,m,kvs,f,e,rfl,hty.mono s1.tups,by omega,s1 _ _ hm,?_,fun q2 H2 s2 hq2=>?_⟩
    . exact Tells.mono s1.tups fun z hz=>htl z (qar _ hz)
    . exact⟨o,q,q2,_,_,rfl,by decide,fun _=>qnr _,hq.mono s2,hq2,fun q3 H3 s3 hq3=>k q3 H3 ((s1.trans s2).trans s3) hq3⟩
def di(n k:Nat):Nat:=if n.testBit k=true then 1 else 0
theorem tX(n k:Nat):Builtin.bitAnd ((n:Int) / 2 ^ ((k:Int)).toNat) 1=((di n k:Nat):Int):=by
 have e:((n:Int) / 2 ^ ((k:Int)).toNat)=((n / 2 ^ k:Nat):Int):=by
  rw[Int.toNat_natCast];simp
 have e1:(1:Int)=((1:Nat):Int):=rfl;rw[e,e1,band,Nat.and_one_is_mod,Kf]
 rfl
inductive spBit(vs:List V)(H:Hp)(Q:VK)(E:XK):Prop
 |mk (n k:Nat) (_:vs=[.int n,.int k]) (_:Q (.int (di n k:Nat)) H)
theorem wO(x:Str):∀ ns:List Str,inV (.str x) (ns.map V.str)=decide (x∈ns)
 |[]=>rfl
 | y::r=>by
  have ih:=wO x r;unfold inV at ih ⊢;rw[List.map_cons,List.any_cons,ih]
  have e:eqV (.str y) (.str x)=decide (y=x):=by
   show(y == x)=_
   by_cases z:y=x
   . simp[z]
   . simp[z]
  rw[e]
  by_cases z:y=x
  . simp[z]
  . by_cases z2:x∈r
    . simp[z2]
    . have z3:¬ x=y:=fun h=>z h.symm
      simp[z,z2,z3]
theorem uT(ns:List Str):(ns.map V.str).all eY=true:=by
 rw[List.all_map];exact List.all_eq_true.mpr fun _ _=>rfl
def oV(x:Str):Prop:=x.length<=1000/\∀ c∈x.cps.toList,c<16 ^ 8
theorem IsName.small{y:Str}(h:IsName y):oV y:=⟨by rw[jz];have:=h.le;omega,fun c hc=>by have:=(h.ok c hc).2;omega⟩
inductive spNeed(t:Adr)(vs:List V)(H:Hp)(Q:VK)(E:XK):Prop
 |mk (p:Addr) (v:V) (ns:List Str) (tr:Tr) (_:vs=[.ref p,v]) (_:H p=some (.tup (ns.map V.str))) (_:TrAt H v tr) (_:tr.size<=100000) (_:(∃ L:List Str,L.length<64/\∀ x∈tr.names,x∈L)) (_:(∀ x∈tr.names,oV x)) (_:((∀ x∈tr.names,x∈ns)->∀ H',Same H H'->Q .non H')) (_:((¬ ∀ x∈tr.names,x∈ns)->∀ H',Same H H'->E (.ref t.zf) none H'))
def Fits(H:Hp)(p:Addr)(v:V)(ns:List Str)(tr:Tr):Prop :=
 H p=some (.tup (ns.map V.str))/\ns.length<=8/\ns.Nodup/\TrAt H v tr/\tr.size<=100000/\tr.depth<=110/\(∃ L:List Str,L.length<64/\∀ x∈tr.names,x∈L)/\∀ x∈tr.names,oV x
theorem scBit:FnScope ["number","place"] ["number","place"] (aB S6):=mkS
theorem oW(T:Txt P w K mg t):FO P w K mg base 1 t.a6 t.d6 ["number","place"] spBit:=by
 refine T.q6.F.ok2 scBit (fun cdv A outer s H vs Q E hr h=>?_);obtain⟨n,k,rfl,q⟩:=h;have nd:=scBit.nd;refine⟨_,(aq (aA (aG eX (aG mC (pvl 0) (pvl 1)) ak))),?_⟩;refine⟨_,rfl,_,rfl,_,_,rfl,rfl,Int.natCast_nonneg k,_,_,rfl,rfl,?_⟩;rw[<- tX]at q;exact q
theorem scNeed:FnScope ["names","tree","name"] ["names","tree"] (aB S8):=mkS
theorem yL(T:Txt P w K mg t):FO P w K mg base 4 t.a8 t.d8 ["names","tree"] (spNeed t):=by
 have G5:=Hl (base:=base) T;refine T.q8.F.ok2 scNeed (fun cdv A outer s H vs Q E hr h=>?_);obtain⟨p,v,ns,tr,rfl,hp,ht,hsz,hL,hsm,k1,k2⟩:=h;have nd:=scNeed.nd
 refine ⟨_,(aq (dU own1 rfl (cZ (aQ G5 (hr.mo) T.q5.m T.q5.k T.q5.b aJ (aa (pvl 1) aj))) (pgl 2 nd)
    (aq (aV (aH v8 (pvl 2) (pvl 0) (by with_unfolding_all rfl))
     (aq (dF eO rfl T.zV T.zaf (aa (Gr az (tO (pvl 2)) az) aj)))
     aP)))),?_⟩
 refine⟨_,rfl,v,tr,rfl,ht,hsz,hL,fun l ys H1 hl hl1 s1 _ _ hmem=>?_⟩
 refine⟨l,rfl,⟨_,SqL.of hl1⟩,gw (K:=K) (a:=l) (xs:=ys.map V.str)
  (fun i σ H2=>∃ o:Option V,σ=[some (.ref p),some v,o]/\Same H1 H2/\∀ x∈ys.take i,x∈ns) ⟨none,rfl,Same.refl _,by simp⟩ (fun i σ H2 _ ⟨_,_,s2,_⟩=>SqL.of (s2 _ _ hl1)) ?_ ?_⟩
 . rintro i y σ H2 hi ⟨o,rfl,s2,hin⟩
   rw[qgm]at hi
   obtain⟨x,hx,rfl⟩:∃ x,ys[i]? = some x/\y=V.str x:=by
    cases e:ys[i]? with
    |none=>rw[e]at hi;cases hi
    |some x=>rw[e]at hi;exact⟨x,rfl,(qsi hi).symm⟩
   have hxt:x∈tr.names:=(hmem x).mp (qmg hx);refine⟨_,rfl,_,rfl,p,_,rfl,.inr (SqT.of (s2 _ _ (s1 _ _ hp))),rfl,uT ns,_,rfl,?_⟩;rw[qp rfl,wO]
   by_cases hm:x∈ns
   . rw[qdt hm]
     refine bz ?_;refine⟨_,rfl,s2,fun z hz=>?_⟩;rw[qta,hx]at hz;rcases List.mem_append.mp hz with hz|hz
     . exact hin z hz
     . have:z=x:=by simpa using hz
       rw[this];exact hm
   . rw[qdf hm]
     refine bT ?_;obtain⟨z1,z2⟩:=hsm x hxt;have e1:=PySem.StrLaws.reprText_len x z2;have e3:(Str.ofString "the name ").length=9:=by decide +kernel
     have e4:(Str.ofString " is not told").length=12:=by decide +kernel
     refine⟨_,rfl,(by decide +kernel),_,rfl,x,rfl,repr_fits z2 z1,_,rfl,?_,_,rfl,?_,(by show 1<=sizeLine;decide),k2 (fun z=>hm (z x hxt)) H2 (s1.trans s2)⟩
     . rw[strLen_append,e3];unfold sizeLine;omega
     . rw[strLen_append,strLen_append,e3,e4];unfold sizeLine;omega
 . rintro σ H2 ⟨o,rfl,s2,hin⟩
   rw[qlm,List.take_length]at hin;exact k1 (fun x hx=>hin x ((hmem x).mpr hx)) H2 (s1.trans s2)
theorem DK(kvs:List (Key×V))(x y:Str)(v:V):bY (putK kvs (.inr x) v) (.inr y)=if y=x then some v else bY kvs (.inr y):=by
 rw[Gh]
 by_cases h:y=x
 . rw[qp h,qp (by rw[h])]
 . rw[qnZ h,qnZ (fun z=>h (by injection z))]
theorem DN{ns:List Str}(hn:ns.Nodup){i j:Nat}(hi:i<ns.length)(hj:j<ns.length)(e:ns[i]=ns[j]):i=j:=by
 rcases Nat.lt_trichotomy i j with h|h|h
 . exact absurd e ((List.pairwise_iff_getElem.mp hn) i j hi hj h)
 . exact h
 . exact absurd e.symm ((List.pairwise_iff_getElem.mp hn) j i hj hi h)
theorem Mv{ns:List Str}(hn:ns.Nodup){i:Nat}{x:Str}(h:ns[i]? = some x):ns.idxOf x=i:=by
 obtain⟨hi,e⟩:=List.getElem?_eq_some_iff.mp h;have h1:ns.idxOf x<ns.length:=List.idxOf_lt_length_iff.mpr (e ▸ List.getElem_mem hi);have h2:ns[ns.idxOf x]=x:=List.getElem_idxOf h1;exact DN hn h1 hi (h2.trans e.symm)
inductive spFull(vs:List V)(H:Hp)(Q:VK)(E:XK):Prop
 |mk (p:Addr) (ns:List Str) (_:vs=[.ref p]) (_:H p=some (.tup (ns.map V.str))) (_:ns.length<=8) (_:Q (.int (cz ns.length:Nat)) H)
inductive spWith(vs:List V)(H:Hp)(Q:VK)(E:XK):Prop
 |mk (p:Addr) (ns:List Str) (k:Nat) (_:vs=[.ref p,.int k]) (_:H p=some (.tup (ns.map V.str))) (_:ns.length<=8) (_:∀ H',Same H H'->Q (.int (dH ns.length k:Nat)) H')
def ofK(ns:List Str)(c:Int)(x:Str):Nat×Nat:=if (ns.idxOf x:Int)<c then ofN ns x else(0,0)
inductive spOf(vs:List V)(H:Hp)(Q:VK)(E:XK):Prop
 |mk (p:Addr) (ns:List Str) (c:Int) (_:vs=[.ref p,.int c]) (_:H p=some (.tup (ns.map V.str))) (_:ns.length<=8) (_:ns.Nodup) (_:∀ m kvs H',Same H H'->H' m=some (.dK kvs)->Tells H' kvs (ofK ns c) ns->Q (.ref m) H')
inductive spTable(t:Adr)(vs:List V)(H:Hp)(Q:VK)(E:XK):Prop
 |mk (p:Addr) (v:V) (ns:List Str) (tr:Tr) (_:vs=[.ref p,v]) (_:Fits H p v ns tr) (_:((∀ x∈tr.names,x∈ns)->∀ H',Same H H'->Q (.int (aR ns tr:Nat)) H')) (_:((¬ ∀ x∈tr.names,x∈ns)->∀ H',Same H H'->E (.ref t.zf) none H'))
theorem qM(p:Nat->Bool):∀ m,((((List.range m).filter p).map fun i=>((2 ^ i:Nat):Int))).sum=((fL p m:Nat):Int)
 | 0=>rfl
 | m+1=>by
  rw[List.range_succ,List.filter_append,List.map_append,List.sum_append,qM p m];show _+(((List.filter p [m]).map fun i=>((2 ^ i:Nat):Int))).sum=((fL p m+(if p m=true then 2 ^ m else 0):Nat):Int)
  cases hp:p m with
  |true=>simp[hp]
  |false=>simp[hp]
theorem scFull:FnScope ["names"] ["names"] (aB S12):=mkS
theorem tY(T:Txt P w K mg t):FO P w K mg base 1 t.a12 t.d12 ["names"] spFull:=by
 refine T.q12.F.ok2 scFull (fun cdv A outer s H vs Q E hr h=>?_);obtain⟨p,ns,rfl,hp,h8,k⟩:=h;have nd:=scFull.nd;refine⟨_,(aq (aA (aG dW (aG eV ak (aG eV ak (aZ aX T.zd Bt.len (aa (pvl 0) aj)))) ak))),?_⟩;have h256:2 ^ ns.length<=256:=Nat.pow_le_pow_right (n:=2) (by decide) h8
 have e1:(1:Int) * 2 ^ (((ns.map V.str).length:Nat):Int).toNat=((2 ^ ns.length:Nat):Int):=by
  rw[qlm,Int.toNat_natCast];simp
 have e2':cz ns.length=2 ^ (2 ^ ns.length) - 1:=rfl;have e3':dH ns.length=fun k=>fL (fun i=>i.testBit k) (2 ^ ns.length):=rfl
 generalize 2 ^ ns.length=N at h256 e1 e2' e3';refine⟨_,rfl,p,_,rfl,.inr (SqT.of hp),_,_,rfl,rfl,⟨by rw[qlm];omega,by rw[qlm];omega,by decide⟩,_,_,rfl,rfl,⟨?_,?_,by decide⟩,_,_,rfl,rfl,?_⟩
 . rw[e1];omega
 . rw[e1];omega
 . have e2:(1:Int) * 2 ^ ((1:Int) * 2 ^ (((ns.map V.str).length:Nat):Int).toNat).toNat - 1=((cz ns.length:Nat):Int):=by
    rw[e1,Int.toNat_natCast,e2'];have:1<=2 ^ N:=Nat.one_le_two_pow;rw[Int.one_mul,Int.ofNat_sub this];simp
   rw[<- e2]at k;exact k
theorem scWith:FnScope ["names","place"] ["names","place"] (aB S13):=mkS
theorem Kh(T:Txt P w K mg t):FO P w K mg base 2 t.a13 t.d13 ["names","place"] spWith:=by
 have G6:=oW (base:=base) T;refine T.q13.F.ok2 scWith (fun cdv A outer s H vs Q E hr h=>?_);obtain⟨p,ns,k,rfl,hp,h8,q⟩:=h;have nd:=scWith.nd;refine⟨_,(aq (aA (aZ (uJ rfl) T.zY Bt.sum (aa (cj rfl ["world","place"] [none,some 1] (gj T.zp (aa (aG eV ak (aZ aX T.zd Bt.len (aa (pvl 0) aj))) aj)) (by kernel_rfl) (fun _ _ _ _ _ _=>(pgl 0 (ndS (l:=["world","place"])))) (fun _ _ _ _ _ _=>gG (aH aW (aQ G6 (hr.mo) T.q6.m T.q6.k T.q6.b aJ (aa (pvl 0) (aa (pvc 1) aj))) ak (aN _))) (fun _ _ _ _ _ _=>(aG eV ak (pvl 0)))) aj)))),?_⟩;have h256:2 ^ ns.length<=256:=Nat.pow_le_pow_right (n:=2) (by decide) h8
 have e1:(1:Int) * 2 ^ (((ns.map V.str).length:Nat):Int).toNat=((2 ^ ns.length:Nat):Int):=by
  rw[qlm,Int.toNat_natCast];simp
 have e2':cz ns.length=2 ^ (2 ^ ns.length) - 1:=rfl;have e3':dH ns.length=fun k=>fL (fun i=>i.testBit k) (2 ^ ns.length):=rfl
 generalize 2 ^ ns.length=N at h256 e1 e2' e3';refine⟨_,rfl,p,_,rfl,.inr (SqT.of hp),_,_,rfl,rfl,⟨by rw[qlm];omega,by rw[qlm];omega,by decide⟩,?_⟩
 try dsimp only
 rw[e1];refine⟨_,rfl,by omega,by omega,?_⟩;rw[Int.toNat_natCast];refine m6 (n:=N) (fun i ys H'=>H'=H/\ys=((List.range i).filter fun j=>j.testBit k).map fun j=>V.int ((2 ^ j:Nat):Int)) ⟨rfl,rfl⟩ (lkB (by omega)) (fun i ys H' ⟨_,e⟩=>?_) ?_ ?_
 . rw[e,qlm]
   refine qnt (List.length_filter_le _ _) ?_;rw[List.length_range];exact qnr _
 . rintro i ys H' hi ⟨rfl,rfl⟩
   refine⟨⟨rfl,trivial⟩,?_⟩;refine⟨_,rfl,_,rfl,i,k,?_,rfl,_,rfl,?_⟩
   . rw[Int.zero_add];rfl
   . unfold di
     rw[List.range_succ,List.filter_append,List.map_append];cases hb:i.testBit k with
     | true =>
      refine bT ?_;refine⟨_,rfl,_,_,rfl,rfl,⟨by omega,by omega,by decide⟩,rfl,?_⟩
      try dsimp only
      rw[List.filter_cons,qp hb,Int.zero_add,Int.toNat_natCast];simp
     | false =>
      refine bz ⟨rfl,?_⟩;rw[List.filter_cons,qnZ (by rw[hb];decide)];simp
 . rintro ys H' ⟨rfl,rfl⟩ l hl
   refine⟨l,((List.range N).filter fun j=>j.testBit k).map fun j=>((2 ^ j:Nat):Int),rfl,SqL.of (by rw[au,List.map_map];rfl),?_⟩;have q:=q _ (aD (o:=.lst (((List.range N).filter fun j=>j.testBit k).map fun j=>V.int ((2 ^ j:Nat):Int))) hl);rw[e3']at q;dsimp only at q;rw[<- qM]at q;exact q
theorem scOf:FnScope ["names","known_ones","of_names","place","name","kept"] ["names","known_ones"] (aB S14):=mkS
theorem Od(T:Txt P w K mg t):FO P w K mg base 3 t.a14 t.d14 ["names","known_ones"] spOf:=by
 have G13:=Kh (base:=base) T;have G12:=tY (base:=base) T;refine T.q14.F.ok2 scOf (fun cdv A outer s H vs Q E hr h=>?_);obtain⟨p,ns,c,rfl,hp,h8,hnd,k⟩:=h;have nd:=scOf.nd;have hu:=gF hr
 refine⟨_,(ao (psl 2 nd qF)
   (ao (dU own1 rfl (jF (pvl 0) T.zm) (mz (n:=2) rfl (bB (pgl 3 nd) (bB (pgl 4 nd) dR)))
    (ao (psl 5 nd (aQ G13 (hr.mo) T.q13.m T.q13.k T.q13.b aJ (aa (pvl 0) (aa (pvl 3) aj))))
    (aq (tM hu (pvl 2) (pvl 4) (fC (aH lB (pvl 3) (pvl 1) (aN _)) (bw (aa (pvl 5) (aa (aG mD (aQ G12 (hr.mo) T.q12.m T.q12.k T.q12.b aJ (aa (pvl 0) aj)) (pvl 5)) aj))) (bw (aa ak (aa ak aj)))) rfl))))
   (aq (aA (pvl 2))))),?_⟩
 intro m hm;have s0:Same H (upd H m (.dK [])):=aD hm
 refine⟨_,rfl,p,rfl,⟨_,SqT.of (s0 _ _ hp)⟩,uL (K:=K) (a:=p) (xs:=ns.map V.str)
  (fun i σ H2=>∃(o3 o4 o5:Option V)(kvs:List (Key×V)),σ=[some (.ref p),some (.int c),some (.ref m),o3,o4,o5]/\Same H H2/\H2 m=some (.dK kvs)/\kvs.length<=i/\Tells H2 kvs (ofK ns c) (ns.take i))
  ⟨none,none,none,[],rfl,s0,au,qnr _,(fun x hx=>by simp at hx)⟩ (fun i σ H2 _ ⟨_,_,_,_,_,s2,_⟩=>SqT.of (s2 _ _ hp)) ?_ ?_⟩
 . rintro i y σ H2 hi ⟨o3,o4,o5,kvs,rfl,s2,hm2,hl2,htl⟩ e he
   rw[qgm]at hi
   obtain⟨x,hx,rfl⟩:∃ x,ns[i]? = some x/\y=V.str x:=by
    cases q:ns[i]? with
    |none=>rw[q]at hi;cases hi
    |some x=>rw[q]at hi;exact⟨x,rfl,(qsi hi).symm⟩
   have hi8:i<8:=by
    have:=(List.getElem?_eq_some_iff.mp hx).1;omega
   have hix:=Mv hnd hx;have s3:=aD (o:=.tup [.int i,.str x]) he;refine⟨e,_,rfl,SqT.of au,rfl,_,_,rfl,_,_,rfl,rfl,?_⟩;refine⟨_,rfl,_,rfl,p,ns,i,rfl,s3 _ _ (s2 _ _ hp),h8,fun H4 s4=>?_⟩;have s24:=s3.trans s4
   have fin:∀(q:Addr)(x1:Nat×Nat)(H5:Hp),Same H4 H5->Two H5 q x1->ofK ns c x=x1 ->
     (∃(o3 o4 o5:Option V)(kvs':List (Key×V)),[some (V.ref p),some (V.int c),some (V.ref m),some (V.int i),some (V.str x),some (V.int (dH ns.length i:Nat))]=[some (.ref p),some (.int c),some (.ref m),o3,o4,o5]/\Same H (upd H5 m (.dK (putK kvs (.inr x) (.ref q))))/\(upd H5 m (.dK (putK kvs (.inr x) (.ref q)))) m=some (.dK kvs')/\kvs'.length<=i+1/\Tells (upd H5 m (.dK (putK kvs (.inr x) (.ref q)))) kvs' (ofK ns c) (ns.take (i+1))):=by
    intro q x1 H5 s5 hq hof;have hm5:=s5 _ _ (s24 _ _ hm2)
    have kt:Tups H5 (upd H5 m (.dK (putK kvs (.inr x) (.ref q)))):=fun b xs eb=>by
     rw[aF (fun z=>by subst z;rw[hm5]at eb;cases eb)];exact eb
    refine⟨_,_,_,_,rfl,fun b o eb=>?_,au,qnt (jx kvs (.inr x) (.ref q)) (by omega),fun z hz=>?_⟩
    . rw[aF (aM eb hm)]
      exact s5 _ _ (s24 _ _ (s2 _ _ eb))
    . rw [DK]
      by_cases hzx:z=x
      . subst hzx
        rw[qp rfl,hof];exact⟨q,rfl,hq.tups kt⟩
      . rw[qnZ hzx]
        rw[qta,hx]at hz;rcases List.mem_append.mp hz with hz|hz
        . obtain⟨q',h1,h2⟩:=htl z hz
          exact⟨q',h1,h2.tups ((s24.trans s5).tups.trans kt)⟩
        . exact absurd (by simpa using hz) hzx
   refine⟨_,rfl,_,rfl,_,_,rfl,rfl,_,rfl,aU (fun cc=>?_) (fun cc=>?_)⟩
   . have cc:(i:Int)<c:=qod cc
     refine⟨_,rfl,_,rfl,p,ns,rfl,s24 _ _ (s2 _ _ hp),h8,_,rfl,_,_,rfl,rfl,lk (by first|exact qnb rfl|simp),fun q hq=>?_⟩;have hq0:=hq;have s5:=aD (o:=.tup [.int (dH ns.length i:Nat),.int (Builtin.bitXor (cz ns.length:Nat) (dH ns.length i:Nat))]) hq;refine⟨_,rfl,_,rfl,m,_,rfl,DPut.k (k:=Sum.inr x) (s5 _ _ (s24 _ _ hm2)) (dO (by omega)),?_⟩;refine fin q (dH ns.length i,cz ns.length ^^^ dH ns.length i) _ s5 (by unfold Two;rw[au];simp only[bxor]) ?_;unfold ofK ofN;rw[hix,qp cc]
   . have cc:¬ (i:Int)<c:=fun z=>cc (qdt z)
     refine⟨lk (by first|exact qnb rfl|simp),fun q hq=>?_⟩;have s5:=aD (o:=.tup [.int 0,.int 0]) hq;refine⟨_,rfl,_,rfl,m,_,rfl,DPut.k (k:=Sum.inr x) (s5 _ _ (s24 _ _ hm2)) (dO (by omega)),?_⟩;refine fin q (0,0) _ s5 au ?_;unfold ofK;rw[hix,qnZ cc]
 . rintro σ H2 ⟨o3,o4,o5,kvs,rfl,s2,hm2,hl2,htl⟩
   rw[qlm,List.take_length]at htl;exact⟨_,rfl,k m kvs H2 s2 hm2 htl⟩
theorem scTable:FnScope ["names","tree"] ["names","tree"] (aB S15):=mkS
theorem wQ(T:Txt P w K mg t):FO P w K mg base 116 t.a15 t.d15 ["names","tree"] (spTable t):=by
 have G8:=yL (base:=base) T;have G12:=tY (base:=base) T;have G14:=Od (base:=base) T;have G9:=wN (base:=base) T 110;refine T.q15.F.ok2 scTable (fun cdv A outer s H vs Q E hr h=>?_);obtain⟨p,v,ns,tr,rfl,⟨hp,h8,hnd,ht,hsz,hd,hL,hsm⟩,k1,k2⟩:=h;have nd:=scTable.nd
 refine⟨_,(ao (bA (aQ G8 (hr.mo) T.q8.m T.q8.k T.q8.b bx (aa (pvl 0) (aa (pvl 1) aj))))
   (aq (aA (pix aK (aQ G9 (hr.mo) T.q9.m T.q9.k T.q9.b aJ (aa (pvl 1) (aa (aQ G14 (hr.mo) T.q14.m T.q14.k T.q14.b aJ (aa (pvl 0) (aa (aZ aX T.zd Bt.len (aa (pvl 0) aj)) aj))) (aa (aQ G12 (hr.mo) T.q12.m T.q12.k T.q12.b aJ (aa (pvl 0) aj)) aj)))) ak)))),?_⟩
 refine⟨_,rfl,_,rfl,p,v,ns,tr,rfl,hp,ht,hsz,hL,hsm,fun hall H1 s1=>?_,fun hno H1 s1=>k2 hno H1 s1⟩;refine⟨_,rfl,_,rfl,_,rfl,p,_,rfl,.inr (SqT.of (s1 _ _ hp)),p,ns,_,rfl,s1 _ _ hp,h8,hnd,fun m kvs H2 s2 hm htl=>?_⟩;refine⟨_,rfl,p,ns,rfl,s2 _ _ (s1 _ _ hp),h8,v,tr,m,kvs,_,_,rfl,ht.mono (s1.trans s2).tups,hd,hm,fun x hx=>htl x (hall x hx),fun q H3 s3 hq=>?_⟩
 have e:(cY (ofK ns (((ns.map V.str).length:Nat):Int)) (cz ns.length) tr).1=aR ns tr:=by
  rw[<- xZ];refine congrArg Prod.fst (iT fun x hx=>?_);unfold ofK;rw[qp];have:=List.idxOf_lt_length_iff.mpr (hall x hx);rw[qlm];omega
 refine⟨q,_,0,_,rfl,rfl,SqT.of hq,rfl,?_⟩;have k1:=k1 hall H3 ((s1.trans s2).trans s3);rw[<- e]at k1;exact k1
inductive spBreak(t:Adr)(vs:List V)(H:Hp)(Q:VK)(E:XK):Prop
 |mk (p:Addr) (v:V) (ns:List Str) (tr:Tr) (_:vs=[.ref p,v]) (_:Fits H p v ns tr) (_:((∀ x∈tr.names,x∈ns)->∀ H',Same H H'->Q (.int (aC ns tr:Nat)) H')) (_:((¬ ∀ x∈tr.names,x∈ns)->∀ H',Same H H'->E (.ref t.zf) none H'))
theorem scBreak:FnScope ["names","tree"] ["names","tree"] (aB S16):=mkS
theorem qN(T:Txt P w K mg t):FO P w K mg base 117 t.a16 t.d16 ["names","tree"] (spBreak t):=by
 have G15:=wQ (base:=base) T;have G12:=tY (base:=base) T;refine T.q16.F.ok2 scBreak (fun cdv A outer s H vs Q E hr h=>?_);obtain⟨p,v,ns,tr,rfl,hf,k1,k2⟩:=h;have nd:=scBreak.nd;refine⟨_,(aq (aA (aG mD (aQ G12 (hr.mo) T.q12.m T.q12.k T.q12.b aJ (aa (pvl 0) aj)) (aQ G15 (hr.mo) T.q15.m T.q15.k T.q15.b bx (aa (pvl 0) (aa (pvl 1) aj)))))),?_⟩;refine⟨_,rfl,p,ns,rfl,hf.1,hf.2.1,_,rfl,_,rfl,p,v,ns,tr,rfl,hf,fun hall H1 s1=>?_,k2⟩;refine⟨_,_,rfl,rfl,?_⟩;have k1:=k1 hall H1 s1;rw[<- qi,<- bxor]at k1;exact k1
def lX:Option Int->V
 |none=>.non
 |some m=>.int m
def fZ:Option Int->Bool
 |none=>true
 |some m=>decide (0<m)
inductive spLeastR(vs:List V)(H:Hp)(Q:VK)(E:XK):Prop
 |mk (r:Addr) (rs:List Int) (wd:Nat) (_:vs=[.ref r,.int wd]) (_:H r=some (.tup (rs.map V.int))) (_:rs.length<=256) (_:∀ H',Same H H'->Q (lX (aO (sel rs wd))) H')
def MindAt(H:Hp)(a:Addr)(p r:Addr)(rs:List Int):Prop:=H a=some (.tup [.ref p,.ref r])/\H r=some (.tup (rs.map V.int))/\rs.length<=256
theorem MindAt.mono{H H':Hp}{a p r:Addr}{rs:List Int}(s:Same H H')(h:MindAt H a p r rs):MindAt H' a p r rs:=⟨s _ _ h.1,s _ _ h.2.1,h.2.2⟩
inductive spFirm(t:Adr)(vs:List V)(H:Hp)(Q:VK)(E:XK):Prop
 |mk (a p r:Addr) (rs:List Int) (v:V) (ns:List Str) (tr:Tr) (_:vs=[.ref a,v]) (_:MindAt H a p r rs) (_:Fits H p v ns tr) (_:((∀ x∈tr.names,x∈ns)->∀ H',Same H H'->Q (lX (aO (sel rs (aC ns tr)))) H')) (_:((¬ ∀ x∈tr.names,x∈ns)->∀ H',Same H H'->E (.ref t.zf) none H'))
inductive spHeld(t:Adr)(vs:List V)(H:Hp)(Q:VK)(E:XK):Prop
 |mk (a p r:Addr) (rs:List Int) (v:V) (ns:List Str) (tr:Tr) (_:vs=[.ref a,v]) (_:MindAt H a p r rs) (_:Fits H p v ns tr) (_:((∀ x∈tr.names,x∈ns)->∀ H',Same H H'->Q (.bl (fZ (aO (sel rs (aC ns tr))))) H')) (_:((¬ ∀ x∈tr.names,x∈ns)->∀ H',Same H H'->E (.ref t.zf) none H'))
theorem scLeastR:FnScope ["ranks","worlds"] ["ranks","worlds"] (aB S18):=mkS
theorem oX(T:Txt P w K mg t):FO P w K mg base 2 t.a18 t.d18 ["ranks","worlds"] spLeastR:=by
 have G6:=oW (base:=base) T;refine T.q18.F.ok2 scLeastR (fun cdv A outer s H vs Q E hr h=>?_);obtain⟨r,rs,wd,rfl,hr0,hlen,k⟩:=h;have nd:=scLeastR.nd;refine⟨_,(aq (aA (J8 rfl (cj rfl ["world","rank","worlds"] [none,none,some 1] (jF (pvl 0) T.zm) (by kernel_rfl) (fun _ _ _ _ _ _=>(iI (K:=K) (n:=2) rfl rfl (bB (pgl 0 (ndS (l:=["world","rank","worlds"]))) (bB (pgl 1 (ndS (l:=["world","rank","worlds"]))) dR)))) (fun _ _ _ _ _ _=>gG (aH aW (aQ G6 (hr.mo) T.q6.m T.q6.k T.q6.b aJ (aa (pvc 2) (aa (pvl 0) aj))) ak (aN _))) (fun _ _ _ _ _ _=>(pvl 1))) T.zA))),?_⟩;refine⟨_,rfl,r,rfl,⟨_,SqT.of hr0⟩,?_⟩;refine gJ (K:=K) (a:=r) (xs:=rs.map V.int) (fun i ys H'=>Same H H'/\ys=(fH rs wd i).map V.int) ⟨Same.refl _,rfl⟩ (lk (by rw[qlm];omega)) (fun i ys H' ⟨_,e⟩=>by rw[e,qlm];exact uP _ _ _) (fun i ys H' ⟨s1,_⟩=>SqT.of (s1 _ _ hr0)) ?_ ?_
 . rintro i y ys H1 hi ⟨s1,rfl⟩ e he
   rw[qgm]at hi
   obtain⟨x,hx,rfl⟩:∃ x,rs[i]? = some x/\y=V.int x:=by
    cases q:rs[i]? with
    |none=>rw[q]at hi;cases hi
    |some x=>rw[q]at hi;exact⟨x,rfl,(qsi hi).symm⟩
   have s2:=s1.trans (aD (o:=.tup [.int i,.int x]) he);refine⟨e,_,rfl,SqT.of au,rfl,_,_,rfl,_,_,rfl,rfl,⟨rfl,trivial⟩,?_⟩;refine⟨_,rfl,_,rfl,wd,i,rfl,rfl,_,rfl,?_⟩;rw[rT];unfold di;have ex:rs.getD i 0=x:=by rw[List.getD,hx];rfl
   cases hb:wd.testBit i with
   | true =>
    refine bT ?_;refine⟨_,rfl,s2,?_⟩;rw[qp rfl,List.map_append,ex]
    rfl
   | false =>
    refine bz ⟨s2,?_⟩;rw[qnZ (by decide),List.append_nil]
 . rintro ys H1 ⟨s1,rfl⟩ l hl
   rw[qlm];have s2:=s1.trans (aD (o:=.lst ((fH rs wd rs.length).map V.int)) hl);refine⟨l,fH rs wd rs.length,rfl,SqL.of au,fun e=>?_,fun M h1 h2=>?_⟩
   . have k:=k _ s2
     unfold sel at k;rw[e]at k;exact e ▸ k
   . have k:=k _ s2
     unfold sel at k;rw[jl h1 h2]at k;exact k
theorem scFirm:FnScope ["mind","tree"] ["mind","tree"] (aB S19):=mkS
theorem tZ(T:Txt P w K mg t):FO P w K mg base 118 t.a19 t.d19 ["mind","tree"] (spFirm t):=by
 have G16:=qN (base:=base) T;have G18:=oX (base:=base) T;refine T.q19.F.ok2 scFirm (fun cdv A outer s H vs Q E hr h=>?_);obtain⟨a,p,r,rs,v,ns,tr,rfl,hm,hf,k1,k2⟩:=h;have nd:=scFirm.nd;refine⟨_,(aq (aA (aQ G18 (hr.mo) T.q18.m T.q18.k T.q18.b aJ (aa (pix aK (pvl 0) ak) (aa (aQ G16 (hr.mo) T.q16.m T.q16.k T.q16.b bx (aa (pix aK (pvl 0) ak) (aa (pvl 1) aj))) aj))))),?_⟩;refine⟨_,rfl,a,_,1,.ref r,rfl,rfl,SqT.of hm.1,rfl,_,rfl,a,_,0,.ref p,rfl,rfl,SqT.of hm.1,rfl,_,rfl,p,v,ns,tr,rfl,hf,fun hall H1 s1=>?_,k2⟩;exact⟨r,rs,aC ns tr,rfl,s1 _ _ hm.2.1,hm.2.2,fun H2 s2=>k1 hall H2 (s1.trans s2)⟩
theorem scHeld:FnScope ["mind","tree","firm"] ["mind","tree"] (aB S20):=mkS
theorem t6(T:Txt P w K mg t):FO P w K mg base 119 t.a20 t.d20 ["mind","tree"] (spHeld t):=by
 have G19:=tZ (base:=base) T;refine T.q20.F.ok2 scHeld (fun cdv A outer s H vs Q E hr h=>?_);obtain⟨a,p,r,rs,v,ns,tr,rfl,hm,hf,k1,k2⟩:=h;have nd:=scHeld.nd
 refine⟨_,(ao (psl 2 nd (aQ G19 (hr.mo) T.q19.m T.q19.k T.q19.b bx (aa (pvl 0) (aa (pvl 1) aj))))
   (aq (aA (Nk (cF gR (pvl 2) bK (aN _)) (my (cF lC (pvl 2) ak (aN _))))))),?_⟩
 refine⟨_,rfl,_,rfl,a,p,r,rs,v,ns,tr,rfl,hm,hf,fun hall H1 s1=>?_,k2⟩;have k1:=k1 hall H1 s1;refine⟨_,rfl,rfl,_,rfl,?_⟩;cases ho:aO (sel rs (aC ns tr))with
 | none =>
  rw[ho]at k1;rw[show decide (lX none=V.non)=true from qdt rfl];exact bT k1
 | some m =>
  rw[ho]at k1;rw[show decide (lX (some m)=V.non)=false from qdf (by intro z;cases z)];refine bz ⟨_,rfl,_,_,rfl,rfl,k1⟩
inductive spBoth(t:Adr)(vs:List V)(H:Hp)(Q:VK)(E:XK):Prop
 |mk (a p r:Addr) (rs:List Int) (v:V) (ns:List Str) (tr:Tr) (_:vs=[.ref a,v]) (_:MindAt H a p r rs) (_:Fits H p v ns tr) (_:((∀ x∈tr.names,x∈ns)->match aO (sel rs (aC ns tr)),aO (sel rs (aR ns tr))with|none,_=>∀ H',Same H H'->E (.ref t.zh) none H'|some _,none=>∀ H',Same H H'->E (.ref t.zi) none H'|some x,some y=>∀(b:Addr)(H':Hp),Same H H'->H' b=some (.tup [.int x,.int y])->Q (.ref b) H')) (_:((¬ ∀ x∈tr.names,x∈ns)->∀ H',Same H H'->E (.ref t.zf) none H'))
theorem scBoth:FnScope ["mind","tree","against","in_favour"] ["mind","tree"] (aB S21):=mkS
theorem yM(T:Txt P w K mg t):FO P w K mg base 119 t.a21 t.d21 ["mind","tree"] (spBoth t):=by
 have G19:=tZ (base:=base) T;have G15:=wQ (base:=base) T;have G18:=oX (base:=base) T;refine T.q21.F.ok2 scBoth (fun cdv A outer s H vs Q E hr h=>?_);obtain⟨a,p,r,rs,v,ns,tr,rfl,hm,hf,k1,k2⟩:=h;have nd:=scBoth.nd
 refine⟨_,(ao (psl 2 nd (aQ G19 (hr.mo) T.q19.m T.q19.k T.q19.b bx (aa (pvl 0) (aa (pvl 1) aj))))
   (ao (aV (aH gR (pvl 2) bK (aN _))
    (aq (dF eO rfl T.zI T.zac (aa az aj)))
    aP)
   (ao (psl 3 nd (aQ G18 (hr.mo) T.q18.m T.q18.k T.q18.b aJ (aa (pix aK (pvl 0) ak) (aa (aQ G15 (hr.mo) T.q15.m T.q15.k T.q15.b bx (aa (pix aK (pvl 0) ak) (aa (pvl 1) aj))) aj))))
   (ao (aV (aH gR (pvl 3) bK (aN _))
    (aq (dF eO rfl T.zK T.zad (aa az aj)))
    aP)
   (aq (aA (bw (aa (pvl 2) (aa (pvl 3) aj))))))))),?_⟩
 refine⟨_,rfl,_,rfl,a,p,r,rs,v,ns,tr,rfl,hm,hf,fun hall H1 s1=>?_,k2⟩;have k1:=k1 hall;refine⟨_,rfl,rfl,_,rfl,?_⟩;cases hb:aO (sel rs (aC ns tr))with
 | none =>
  rw[hb]at k1;rw[show decide (lX none=V.non)=true from qdt rfl];exact bT ⟨(by show 1<=sizeLine;decide),k1 H1 s1⟩
 | some x =>
  rw[hb]at k1;rw[show decide (lX (some x)=V.non)=false from qdf (by intro z;cases z)];refine bz ?_;have hm1:=hm.mono s1;obtain⟨hp,h8,hnd,ht,hsz,hd,hL,hsm⟩:=id hf;refine⟨_,rfl,a,_,1,.ref r,rfl,rfl,SqT.of hm1.1,rfl,_,rfl,a,_,0,.ref p,rfl,rfl,SqT.of hm1.1,rfl,_,rfl,p,v,ns,tr,rfl,⟨s1 _ _ hp,h8,hnd,ht.mono s1.tups,hsz,hd,hL,hsm⟩,fun _ H2 s2=>?_,fun z=>absurd hall z⟩;refine⟨r,rs,aR ns tr,rfl,s2 _ _ hm1.2.1,hm1.2.2,fun H3 s3=>?_⟩;have s13:=(s1.trans s2).trans s3;refine⟨_,rfl,rfl,_,rfl,?_⟩;cases hk:aO (sel rs (aR ns tr))with
  | none =>
   rw[hk]at k1;rw[show decide (lX none=V.non)=true from qdt rfl];exact bT ⟨(by show 1<=sizeLine;decide),k1 H3 s13⟩
  | some y =>
   rw[hk]at k1;rw[show decide (lX (some y)=V.non)=false from qdf (by intro z;cases z)];exact bz ⟨_,rfl,_,rfl,lk (by first|exact qnb rfl|simp),fun b hb=>k1 b _ (s13.trans (aD hb)) au⟩
inductive spLean(t:Adr)(vs:List V)(H:Hp)(Q:VK)(E:XK):Prop
 |mk (a p r:Addr) (rs:List Int) (v:V) (ns:List Str) (tr:Tr) (_:vs=[.ref a,v]) (_:MindAt H a p r rs) (_:Fits H p v ns tr) (_:((∀ x∈tr.names,x∈ns)->match aO (sel rs (aC ns tr)),aO (sel rs (aR ns tr))with|none,_=>∀ H',Same H H'->E (.ref t.zh) none H'|some _,none=>∀ H',Same H H'->E (.ref t.zi) none H'|some x,some y=>∀ H',Same H H'->Q (.int (x - y)) H')) (_:((¬ ∀ x∈tr.names,x∈ns)->∀ H',Same H H'->E (.ref t.zf) none H'))
theorem scLean:FnScope ["mind","tree","leasts"] ["mind","tree"] (aB S22):=mkS
theorem Kl(T:Txt P w K mg t):FO P w K mg base 120 t.a22 t.d22 ["mind","tree"] (spLean t):=by
 have G21:=yM (base:=base) T;refine T.q22.F.ok2 scLean (fun cdv A outer s H vs Q E hr h=>?_);obtain⟨a,p,r,rs,v,ns,tr,rfl,hm,hf,k1,k2⟩:=h;have nd:=scLean.nd
 refine⟨_,(ao (psl 2 nd (aQ G21 (hr.mo) T.q21.m T.q21.k T.q21.b bx (aa (pvl 0) (aa (pvl 1) aj))))
   (aq (aA (aG dW (pix aK (pvl 2) ak) (pix aK (pvl 2) ak))))),?_⟩
 refine⟨_,rfl,_,rfl,a,p,r,rs,v,ns,tr,rfl,hm,hf,fun hall=>?_,k2⟩;have k1:=k1 hall;cases hb:aO (sel rs (aC ns tr))with
 |none=>rw[hb]at k1;exact k1
 | some x =>
  rw[hb]at k1;cases hk:aO (sel rs (aR ns tr))with
  |none=>rw[hk]at k1;exact k1
  | some y =>
   rw[hk]at k1;exact fun b H1 s1 hb1=>⟨_,rfl,b,_,0,.int x,rfl,rfl,SqT.of hb1,rfl,_,rfl,b,_,1,.int y,rfl,rfl,SqT.of hb1,rfl,_,_,rfl,rfl,k1 H1 s1⟩
inductive spTurn(t:Adr)(vs:List V)(H:Hp)(Q:VK)(E:XK):Prop
 |mk (a p r:Addr) (rs:List Int) (v:V) (ns:List Str) (tr:Tr) (lean:Int) (_:vs=[.ref a,v,.int lean]) (_:MindAt H a p r rs) (_:Fits H p v ns tr) (_:((∀ x∈tr.names,x∈ns)->match aO (sel rs (aC ns tr)),aO (sel rs (aR ns tr))with|none,_=>∀ H',Same H H'->E (.ref t.zh) none H'|some _,none=>∀ H',Same H H'->E (.ref t.zi) none H'|some x,some y=>∀(b q:Addr)(H':Hp),Same H H'->MindAt H' b p q (eZ rs (aC ns tr) x y lean)->Q (.ref b) H')) (_:((¬ ∀ x∈tr.names,x∈ns)->∀ H',Same H H'->E (.ref t.zf) none H'))
theorem scTurn:FnScope ["mind","tree","lean","leasts","for_breaking","for_keeping","against","ranks"] ["mind","tree","lean"] (aB S28):=mkS
theorem t7(T:Txt P w K mg t):FO P w K mg base 120 t.a28 t.d28 ["mind","tree","lean"] (spTurn t):=by
 have G21:=yM (base:=base) T;have G16:=qN (base:=base) T;have G6:=oW (base:=base) T;refine T.q28.F.ok2 scTurn (fun cdv A outer s H vs Q E hr h=>?_);obtain⟨a,p,r,rs,v,ns,tr,lean,rfl,hm,hf,k1,k2⟩:=h;have nd:=scTurn.nd
 refine⟨_,(ao (psl 3 nd (aQ G21 (hr.mo) T.q21.m T.q21.k T.q21.b bx (aa (pvl 0) (aa (pvl 1) aj))))
   (ao (psc 4 nd (aG dW (aZ (uw rfl) T.zX Bt.max (aa (pvl 2) (aa ak aj))) (pix aK (pvl 3) ak)))
   (ao (psc 5 nd (aG dW (aZ (uw rfl) T.zX Bt.max (aa (lA jD (pvl 2)) (aa ak aj))) (pix aK (pvl 3) ak)))
   (ao (psc 6 nd (aQ G16 (hr.mo) T.q16.m T.q16.k T.q16.b bx (aa (pix aK (pvl 0) ak) (aa (pvl 1) aj))))
   (ao (gH (i:=7) rfl ["world","rank","for_breaking","for_keeping","against"] [none,none,some 4,some 5,some 6] nd rfl rfl (jF (pix aK (pvl 0) ak) T.zm) (by kernel_rfl) (fun _ _ _ _ _ _=>(iI (K:=K) (n:=2) rfl rfl (bB (pgl 0 (ndS (l:=["world","rank","for_breaking","for_keeping","against"]))) (bB (pgl 1 (ndS (l:=["world","rank","for_breaking","for_keeping","against"]))) dR)))) (fun _ _ _ _ _ _=>cN) (fun _ _ _ _ _ _=>(aG eU (pvl 1) (fC (aH aW (aQ G6 (hr.mo) T.q6.m T.q6.k T.q6.b aJ (aa (pvc 4) (aa (pvl 0) aj))) ak (aN _)) (pvc 2) (pvc 3)))))
   (aq (aA (bw (aa (pix aK (pvl 0) ak) (aa (dh dB T.zn Bt.tuple (aa (pvl 7) aj)) aj)))))))))),?_⟩
 refine⟨_,rfl,_,rfl,a,p,r,rs,v,ns,tr,rfl,hm,hf,fun hall=>?_,k2⟩;have k1:=k1 hall;cases hb:aO (sel rs (aC ns tr))with
 |none=>rw[hb]at k1;exact k1
 | some x =>
  rw[hb]at k1;cases hk:aO (sel rs (aR ns tr))with
  |none=>rw[hk]at k1;exact k1
  | some y =>
   rw[hk]at k1;intro b H1 s1 hb1;have hm1:=hm.mono s1;obtain⟨hp,h8,hnd,ht,hsz,hd,hL,hsm⟩:=id hf;refine⟨_,rfl,_,_,rfl,_,rfl,b,_,0,.int x,rfl,rfl,SqT.of hb1,rfl,_,_,rfl,rfl,?_⟩;refine⟨_,rfl,_,rfl,_,_,rfl,_,rfl,b,_,1,.int y,rfl,rfl,SqT.of hb1,rfl,_,_,rfl,rfl,?_⟩;refine⟨_,rfl,a,_,0,.ref p,rfl,rfl,SqT.of hm1.1,rfl,_,rfl,p,v,ns,tr,rfl,⟨s1 _ _ hp,h8,hnd,ht.mono s1.tups,hsz,hd,hL,hsm⟩,fun _ H2 s2=>?_,fun z=>absurd hall z⟩;have hm2:=hm1.mono s2;have s12:=s1.trans s2;refine⟨_,rfl,a,_,1,.ref r,rfl,rfl,SqT.of hm2.1,rfl,r,rfl,⟨_,SqT.of hm2.2.1⟩,?_⟩;refine gJ (K:=K) (a:=r) (xs:=rs.map V.int) (fun i ys H'=>Same H2 H'/\ys=(gU rs (aC ns tr) (cT lean - x) (cT (-lean) - y) i).map V.int) ⟨Same.refl _,rfl⟩ (lk (by rw[qlm];have:=hm.2.2;omega)) (fun i ys H' ⟨_,e⟩=>by rw[e,qlm,rW];exact qnr _) (fun i ys H' ⟨s3,_⟩=>SqT.of (s3 _ _ hm2.2.1)) ?_ ?_
   . rintro i z ys H3 hi ⟨s3,rfl⟩ e he
     rw[qgm]at hi
     obtain⟨u,hx,rfl⟩:∃ u,rs[i]? = some u/\z=V.int u:=by
      cases q:rs[i]? with
      |none=>rw[q]at hi;cases hi
      |some u=>rw[q]at hi;exact⟨u,rfl,(qsi hi).symm⟩
     have s4:=s3.trans (aD (o:=.tup [.int i,.int u]) he);refine⟨e,_,rfl,SqT.of au,rfl,_,_,rfl,_,_,rfl,rfl,⟨rfl,rfl,rfl,trivial⟩,?_⟩;refine⟨_,rfl,_,rfl,_,rfl,aC ns tr,i,rfl,rfl,_,rfl,?_⟩;rw[yc];unfold di;have ex:rs.getD i 0=u:=by rw[List.getD,hx];rfl
     cases hbt:(aC ns tr).testBit i with
     | true =>
      refine bT ?_;refine⟨_,rfl,_,_,rfl,rfl,s4,?_⟩;rw[show(if true=true then cT lean - x else cT (-lean) - y)=cT lean - x from qp rfl,List.map_append,ex]
      rfl
     | false =>
      refine bz ?_;refine⟨_,rfl,_,_,rfl,rfl,s4,?_⟩;rw[show(if false=true then cT lean - x else cT (-lean) - y)=cT (-lean) - y from qnZ (by decide),List.map_append,ex]
      rfl
   . rintro ys H3 ⟨s3,rfl⟩ l hl
     rw[qlm];have s4:=s3.trans (aD (o:=.lst ((gU rs (aC ns tr) (cT lean - x) (cT (-lean) - y) rs.length).map V.int)) hl);refine⟨_,rfl,a,_,0,.ref p,rfl,rfl,SqT.of (s4 _ _ hm2.1),rfl,_,rfl,l,_,rfl,.inl ⟨SqL.of au,fun q hq=>?_⟩⟩;have s5:=aD (o:=.tup ((gU rs (aC ns tr) (cT lean - x) (cT (-lean) - y) rs.length).map V.int)) hq;refine⟨lk (by first|exact qnb rfl|simp),fun c hc=>?_⟩;have s6:=aD (o:=.tup [.ref p,.ref q]) hc;exact k1 c q _ (((s12.trans s4).trans s5).trans s6) ⟨au,s6 _ _ au,by rw[jH];exact hm.2.2⟩
inductive spGive(t:Adr)(vs:List V)(H:Hp)(Q:VK)(E:XK):Prop
 |mk (a p r:Addr) (rs:List Int) (v:V) (ns:List Str) (tr:Tr) (_:vs=[.ref a,v]) (_:MindAt H a p r rs) (_:Mind ns rs) (_:Fits H p v ns tr) (_:((∀ x∈tr.names,x∈ns)->match aO (sel rs (aC ns tr))with|none=>∀ H',Same H H'->E (.ref t.zh) none H'|some _=>∀(b q:Addr)(H':Hp),Same H H'->MindAt H' b p q (dg ns tr rs)->Q (.ref b) H')) (_:((¬ ∀ x∈tr.names,x∈ns)->∀ H',Same H H'->E (.ref t.zf) none H'))
theorem scGive:FnScope ["mind","tree"] ["mind","tree"] (aB S29):=mkS
theorem yN(T:Txt P w K mg t):FO P w K mg base 121 t.a29 t.d29 ["mind","tree"] (spGive t):=by
 have G20:=t6 (base:=base) T;have G28:=t7 (base:=base) T;refine T.q29.F.ok2 scGive (fun cdv A outer s H vs Q E hr h=>?_);obtain⟨a,p,r,rs,v,ns,tr,rfl,hm,hM,hf,k1,k2⟩:=h;have nd:=scGive.nd
 refine⟨_,(ao (aV (bZ (aQ G20 (hr.mo) T.q20.m T.q20.k T.q20.b bx (aa (pvl 0) (aa (pvl 1) aj))))
    (aq (aA (aQ G28 (hr.mo) T.q28.m T.q28.k T.q28.b bx (aa (pvl 0) (aa (pvl 1) (aa ak aj))))))
    aP)
   (aq (aA (pvl 0)))),?_⟩
 refine⟨_,rfl,_,rfl,a,p,r,rs,v,ns,tr,rfl,hm,hf,fun hall H1 s1=>?_,k2⟩;have k1:=k1 hall;obtain⟨hp,h8,hnd,ht,hsz,hd,hL,hsm⟩:=id hf;have hm1:=hm.mono s1;have hf1:Fits H1 p v ns tr:=⟨s1 _ _ hp,h8,hnd,ht.mono s1.tups,hsz,hd,hL,hsm⟩
 have eg:dg ns tr rs=match aO (sel rs (aC ns tr)),aO (sel rs (aR ns tr))with|some x,some y=>if 0<x then eZ rs (aC ns tr) x y 0 else rs|_,_=>rs:=rfl
 cases hb:aO (sel rs (aC ns tr))with
 | none =>
  rw[hb]at k1;refine⟨_,rfl,bT ?_⟩;refine⟨_,rfl,_,rfl,a,p,r,rs,v,ns,tr,0,rfl,hm1,hf1,fun _=>?_,fun z=>absurd hall z⟩;rw[hb];exact fun H2 s2=>k1 H2 (s1.trans s2)
 | some x =>
  rw[hb]at k1 eg;refine⟨_,rfl,aU (fun c=>?_) (fun c=>?_)⟩
  . have c:0<x:=qod c
    refine⟨_,rfl,_,rfl,a,p,r,rs,v,ns,tr,0,rfl,hm1,hf1,fun _=>?_,fun z=>absurd hall z⟩;rw[hb];cases hk:aO (sel rs (aR ns tr))with
    | none =>
     rcases oU hM.len tr hM.zero with h|h
     . have:=(bh hb).2 _ h
       omega
     . rw[fY hk]at h;cases h
    | some y =>
     rw[hk]at eg;have eg:dg ns tr rs=if 0<x then eZ rs (aC ns tr) x y 0 else rs:=eg;rw[qp c]at eg;rw[eg]at k1;exact fun b q H2 s2 hm2=>k1 b q H2 (s1.trans s2) hm2
  . have c:¬ 0<x:=fun z=>c (qdt z)
    have eg:dg ns tr rs=rs:=by
     rw[eg];cases hk:aO (sel rs (aR ns tr))with
     |none=>rfl
     |some y=>exact qnZ c
    rw[eg]at k1;exact⟨_,rfl,k1 a r H1 s1 hm1⟩
inductive spTake(t:Adr)(vs:List V)(H:Hp)(Q:VK)(E:XK):Prop
 |mk (a p r:Addr) (rs:List Int) (v:V) (ns:List Str) (tr:Tr) (firm:Int) (_:vs=[.ref a,v,.int firm]) (_:MindAt H a p r rs) (_:Fits H p v ns tr) (_:((∀ x∈tr.names,x∈ns)->match aO (sel rs (aC ns tr)),aO (sel rs (aR ns tr))with|some _,none=>∀ H',Same H H'->E (.ref t.zi) none H'|_,_=>∀(b q:Addr)(H':Hp),Same H H'->MindAt H' b p q (gY ns tr rs firm)->Q (.ref b) H')) (_:((¬ ∀ x∈tr.names,x∈ns)->∀ H',Same H H'->E (.ref t.zf) none H'))
theorem scTake:FnScope ["mind","tree","firm"] ["mind","tree","firm"] (aB S30):=mkS
theorem Km(T:Txt P w K mg t):FO P w K mg base 121 t.a30 t.d30 ["mind","tree","firm"] (spTake t):=by
 have G19:=tZ (base:=base) T;have G28:=t7 (base:=base) T;refine T.q30.F.ok2 scTake (fun cdv A outer s H vs Q E hr h=>?_);obtain⟨a,p,r,rs,v,ns,tr,firm,rfl,hm,hf,k1,k2⟩:=h;have nd:=scTake.nd
 refine⟨_,(ao (aV (aH gR (aQ G19 (hr.mo) T.q19.m T.q19.k T.q19.b bx (aa (pvl 0) (aa (pvl 1) aj))) bK (aN _))
    (aq (aA (pvl 0)))
    aP)
   (aq (aA (aQ G28 (hr.mo) T.q28.m T.q28.k T.q28.b bx (aa (pvl 0) (aa (pvl 1) (aa (pvl 2) aj))))))),?_⟩
 refine⟨_,rfl,_,rfl,a,p,r,rs,v,ns,tr,rfl,hm,hf,fun hall H1 s1=>?_,k2⟩;have k1:=k1 hall;obtain⟨hp,h8,hnd,ht,hsz,hd,hL,hsm⟩:=id hf;have hm1:=hm.mono s1;have hf1:Fits H1 p v ns tr:=⟨s1 _ _ hp,h8,hnd,ht.mono s1.tups,hsz,hd,hL,hsm⟩
 unfold gY at k1;refine⟨rfl,_,rfl,?_⟩;cases hb:aO (sel rs (aC ns tr))with
 | none =>
  rw[hb]at k1;rw[show decide (lX none=V.non)=true from qdt rfl];exact bT ⟨_,rfl,k1 a r H1 s1 hm1⟩
 | some x =>
  rw[hb]at k1;rw[show decide (lX (some x)=V.non)=false from qdf (by intro z;cases z)];refine bz ?_;refine⟨_,rfl,_,rfl,_,rfl,a,p,r,rs,v,ns,tr,firm,rfl,hm1,hf1,fun _=>?_,fun z=>absurd hall z⟩;rw[hb];cases hk:aO (sel rs (aR ns tr))with
  | none =>
   rw[hk]at k1;exact fun H2 s2=>k1 H2 (s1.trans s2)
  | some y =>
   rw[hk]at k1;exact fun b q H2 s2 hm2=>k1 b q H2 (s1.trans s2) hm2
theorem Oe:¬ (("standing":Str)="taken_back"):=by decide +kernel
def lf(sl bl:Addr):List (Str×V):=bf "taken_back" (.ref bl) (bf "standing" (.ref sl) [])
theorem Jr(sl bl:Addr):(lf sl bl).lookup ("standing":Str)=some (.ref sl):=by
 unfold lf;rw[bC,qnZ Oe,bC,qp rfl]
theorem iU (sl bl:Addr) {m:Str} (h1:¬ m="taken_back") (h2:¬ m="standing"):(lf sl bl).lookup m=none:=by
 unfold lf;rw[bC,qnZ h1,bC,qnZ h2]
 rfl
theorem uU(f:Str)(u v:V):∀ l:List (Str×V),bf f u (bf f v l)=bf f u l
 |[]=>by simp[bf]
 | (g,x):: r=>by
  by_cases h:g=f
  . simp[bf,h]
  . simp[bf,h,uU f u v r]
theorem Mw(sl bl bl':Addr):bf "taken_back" (.ref bl') (lf sl bl)=lf sl bl':=uU _ _ _ _
structure LogAt(C:Addr)(H:Hp)(p dx sl bl:Addr)(mv bv:List V):Prop where
 ob:H p=some (.ins C dx (lf sl bl))
 ne:sl≠bl
 st:H sl=some (.lst mv)
 tb:H bl=some (.lst bv)
inductive spLMind(C:Addr)(vs:List V)(H:Hp)(Q:VK)(E:XK):Prop
 |mk (p dx sl bl:Addr) (mv bv:List V) (y:V) (_:vs=[.ref p]) (_:LogAt C H p dx sl bl (mv++[y]) bv) (_:Q y H)
inductive spLStand(C:Addr)(vs:List V)(H:Hp)(Q:VK)(E:XK):Prop
 |mk (p dx sl bl:Addr) (mv bv:List V) (y:V) (_:vs=[.ref p,y]) (_:LogAt C H p dx sl bl mv bv) (_:mv.length<=500) (_:∀(bl':Addr)(H':Hp),H bl'=none->LogAt C H' p dx sl bl' (mv++[y]) []->(∀ b o,H b=some o->b≠p->b≠sl->H' b=some o)->Q .non H')
theorem scLMind:FnScope ["self"] ["self"] (aB S41):=mkS
theorem ni(T:Txt P w K mg t):FO P w K mg base 1 t.a41 t.d41 ["self"] (spLMind t.zc):=by
 refine T.q41.F.ok2 scLMind (fun cdv A outer s H vs Q E hr h=>?_);obtain⟨p,dx,sl,bl,mv,bv,y,rfl,U,k⟩:=h;have nd:=scLMind.nd;refine⟨_,(aq (aA (pix cg (bN (pvl 0) rfl) (lA jD ak)))),?_⟩;exact⟨_,rfl,p,t.zc,dx,_,_,rfl,U.ob,T.zg,T.zP,Jr _ _,1,rfl,sl,_,_,y,rfl,rfl,SqL.of U.st,mX mv y,k⟩
theorem scLStand:FnScope ["self","behind"] ["self","behind"] (aB S34):=mkS
theorem oY(T:Txt P w K mg t):FO P w K mg base 1 t.a34 t.d34 ["self","behind"] (spLStand t.zc):=by
 refine T.q34.F.ok2 scLStand (fun cdv A outer s H vs Q E hr h=>?_);obtain⟨p,dx,sl,bl,mv,bv,y,rfl,U,h500,k⟩:=h;have nd:=scLStand.nd
 refine⟨_,(ao (bA (bW PySem.F.plainAttrs_list PySem.F.slot_list_append PySem.F.type_list_append cM (bN (pvl 0) rfl) (aa (pvl 1) aj)))
   (aq (iQ (pvl 0) (bF aj) rfl))),?_⟩
 have nps:p≠sl:=bH U.ob U.st (by intro z;cases z);refine⟨_,rfl,p,t.zc,dx,_,_,rfl,U.ob,T.zg,T.zP,Jr _ _,.inl ⟨rfl,_,SqL.of U.st⟩,_,rfl,sl,_,_,rfl,rfl,U.st,dO (by omega),?_⟩;refine⟨lk (by first|exact qnb rfl|simp),fun bl' hbl=>?_⟩;have hb0:bl'≠sl:=fun z=>by subst z;rw[au]at hbl;cases hbl
 have hbn:H bl'=none:=by rw[aF hb0]at hbl;exact hbl
 have npb:p≠bl':=aM U.ob hbn;refine⟨_,rfl,p,t.zc,dx,_,rfl,by rw[aF npb,aF nps];exact U.ob,T.zg,T.zZ,(by show 2<1000;decide),?_⟩;rw[Mw];refine k bl' _ hbn ⟨au,Ne.symm hb0,?_,?_⟩ fun b o e h1 h2=>?_
 . rw[aF (Ne.symm nps),aF (Ne.symm hb0),au]
 . rw[aF (Ne.symm npb),au]
 . rw[aF h1,aF (aM e hbn),aF h2]
   exact e
theorem LogAt.mono{C:Addr}{H H':Hp}(s:Same H H'){p dx sl bl:Addr}{mv bv:List V}(U:LogAt C H p dx sl bl mv bv):LogAt C H' p dx sl bl mv bv:=⟨s _ _ U.ob,U.ne,s _ _ U.st,s _ _ U.tb⟩
def nj(p sl:Addr)(H H':Hp):Prop:=∀ b o,H b=some o->b≠p->b≠sl->H' b=some o
inductive spLTake(t:Adr)(vs:List V)(H:Hp)(Q:VK)(E:XK):Prop
 |mk (p dx sl bl:Addr) (mv bv:List V) (a np r:Addr) (rs:List Int) (v:V) (ns:List Str) (tr:Tr) (firm:Int) (_:vs=[.ref p,v,.int firm]) (_:LogAt t.zc H p dx sl bl (mv++[.ref a]) bv) (_:mv.length<=400) (_:MindAt H a np r rs) (_:Fits H np v ns tr) (_:((∀ x∈tr.names,x∈ns)->match aO (sel rs (aC ns tr)),aO (sel rs (aR ns tr))with|some _,none=>∀ H',Same H H'->E (.ref t.zi) none H'|_,_=>∀(b q bl':Addr)(H':Hp),H bl'=none->nj p sl H H'->LogAt t.zc H' p dx sl bl' (mv++[.ref a]++[.ref b]) []->MindAt H' b np q (gY ns tr rs firm)->Q .non H')) (_:((¬ ∀ x∈tr.names,x∈ns)->∀ H',Same H H'->E (.ref t.zf) none H'))
inductive spLGive(t:Adr)(vs:List V)(H:Hp)(Q:VK)(E:XK):Prop
 |mk (p dx sl bl:Addr) (mv bv:List V) (a np r:Addr) (rs:List Int) (v:V) (ns:List Str) (tr:Tr) (_:vs=[.ref p,v]) (_:LogAt t.zc H p dx sl bl (mv++[.ref a]) bv) (_:mv.length<=400) (_:MindAt H a np r rs) (_:Mind ns rs) (_:Fits H np v ns tr) (_:((∀ x∈tr.names,x∈ns)->match aO (sel rs (aC ns tr))with|none=>∀ H',Same H H'->E (.ref t.zh) none H'|some _=>∀(b q bl':Addr)(H':Hp),H bl'=none->nj p sl H H'->LogAt t.zc H' p dx sl bl' (mv++[.ref a]++[.ref b]) []->MindAt H' b np q (dg ns tr rs)->Q .non H')) (_:((¬ ∀ x∈tr.names,x∈ns)->∀ H',Same H H'->E (.ref t.zf) none H'))
theorem oZ{C:Addr}{H H':Hp}{p dx sl bl:Addr}{mv bv:List V}(U:LogAt C H p dx sl bl mv bv)(k:nj p sl H H'){b np q:Addr}{rs:List Int}(h:MindAt H b np q rs):MindAt H' b np q rs :=
 ⟨k _ _ h.1 (bH h.1 U.ob (by intro z;cases z)) (bH h.1 U.st (by intro z;cases z)),k _ _ h.2.1 (bH h.2.1 U.ob (by intro z;cases z)) (bH h.2.1 U.st (by intro z;cases z)),h.2.2⟩
theorem scLTake:FnScope ["self","tree","firm"] ["self","tree","firm"] (aB S35):=mkS
theorem Hm(T:Txt P w K mg t):FO P w K mg base 122 t.a35 t.d35 ["self","tree","firm"] (spLTake t):=by
 have G34:=oY (base:=base) T;have G41:=ni (base:=base) T;have G30:=Km (base:=base) T;refine T.q35.F.ok2 scLTake (fun cdv A outer s H vs Q E hr h=>?_);obtain⟨p,dx,sl,bl,mv,bv,a,np,r,rs,v,ns,tr,firm,rfl,U,h400,hm,fit,k,kn⟩:=h;have nd:=scLTake.nd;refine⟨_,(aq (bA (iC (pvl 0) T.zg T.q34.e G34 (hr.mo) T.q34.b .nil aJ (aa (aQ G30 (hr.mo) T.q30.m T.q30.k T.q30.b bx (aa (dz (pvl 0) T.zg T.q41.e G41 (hr.mo) T.q41.b .nil aJ) (aa (pvl 1) (aa (pvl 2) aj)))) aj)))),?_⟩
 have go:∀(b q:Addr)(H1:Hp),Same H H1->MindAt H1 b np q (gY ns tr rs firm)->(∀(b q bl':Addr)(H':Hp),H bl'=none->nj p sl H H'->LogAt t.zc H' p dx sl bl' (mv++[.ref a]++[.ref b]) []->MindAt H' b np q (gY ns tr rs firm)->Q .non H') ->
   spLStand t.zc [.ref p,.ref b] H1 (fun _ H'=>Q .non H') E0:=fun b q H1 s1 hm1 k=>⟨p,dx,sl,bl,mv++[.ref a],bv,.ref b,rfl,U.mono s1,by rw[List.length_append];show mv.length+1<=500;omega,fun bl' H2 hbn U2 kp=>k b q bl' H2 (s1.free hbn) (fun c o e h1 h2=>kp c o (s1 _ _ e) h1 h2) U2 (oZ (U.mono s1) kp hm1)⟩
 refine⟨_,rfl,p,dx,_,rfl,U.ob,iU _ _ (by decide +kernel) (by decide +kernel),_,rfl,p,dx,_,rfl,U.ob,iU _ _ (by decide +kernel) (by decide +kernel),p,dx,sl,bl,mv,bv,.ref a,rfl,U,_,rfl,_,rfl,a,np,r,rs,v,ns,tr,firm,rfl,hm,fit,fun hall=>?_,kn⟩;have k:=k hall;cases hb:aO (sel rs (aC ns tr))with
 | none =>
  rw[hb]at k;exact fun b q H1 s1 hm1=>go b q H1 s1 hm1 k
 | some x =>
  cases hk:aO (sel rs (aR ns tr))with
  | none =>
   rw[hb,hk]at k;exact k
  | some y =>
   rw[hb,hk]at k;exact fun b q H1 s1 hm1=>go b q H1 s1 hm1 k
theorem scLGive:FnScope ["self","tree"] ["self","tree"] (aB S36):=mkS
theorem Hn(T:Txt P w K mg t):FO P w K mg base 122 t.a36 t.d36 ["self","tree"] (spLGive t):=by
 have G34:=oY (base:=base) T;have G41:=ni (base:=base) T;have G29:=yN (base:=base) T;refine T.q36.F.ok2 scLGive (fun cdv A outer s H vs Q E hr h=>?_);obtain⟨p,dx,sl,bl,mv,bv,a,np,r,rs,v,ns,tr,rfl,U,h400,hm,hM,fit,k,kn⟩:=h;have nd:=scLGive.nd;refine⟨_,(aq (bA (iC (pvl 0) T.zg T.q34.e G34 (hr.mo) T.q34.b .nil aJ (aa (aQ G29 (hr.mo) T.q29.m T.q29.k T.q29.b bx (aa (dz (pvl 0) T.zg T.q41.e G41 (hr.mo) T.q41.b .nil aJ) (aa (pvl 1) aj))) aj)))),?_⟩;refine⟨_,rfl,p,dx,_,rfl,U.ob,iU _ _ (by decide +kernel) (by decide +kernel),_,rfl,p,dx,_,rfl,U.ob,iU _ _ (by decide +kernel) (by decide +kernel),p,dx,sl,bl,mv,bv,.ref a,rfl,U,_,rfl,a,np,r,rs,v,ns,tr,rfl,hm,hM,fit,fun hall=>?_,kn⟩;have k:=k hall;cases hb:aO (sel rs (aC ns tr))with
 | none =>
  rw[hb]at k;exact k
 | some x =>
  rw[hb]at k;exact fun b q H1 s1 hm1=>⟨p,dx,sl,bl,mv++[.ref a],bv,.ref b,rfl,U.mono s1,by rw[List.length_append];show mv.length+1<=500;omega,fun bl' H2 hbn U2 kp=>k b q bl' H2 (s1.free hbn) (fun c o e h1 h2=>kp c o (s1 _ _ e) h1 h2) U2 (oZ (U.mono s1) kp hm1)⟩
inductive spFlat(vs:List V)(H:Hp)(Q:VK)(E:XK):Prop
 |mk (p:Addr) (ns:List Str) (_:vs=[.ref p]) (_:H p=some (.tup (ns.map V.str))) (_:1<=ns.length) (_:ns.length<=8) (_:∀(a r:Addr)(H':Hp),Same H H'->H' r=some (.tup ((List.replicate (2 ^ ns.length) (0:Int)).map V.int))->H' a=some (.tup [.ref p,.ref r])->Q (.ref a) H')
inductive spLInit(C:Addr)(vs:List V)(H:Hp)(Q:VK)(E:XK):Prop
 |mk (p dx np:Addr) (ns:List Str) (_:vs=[.ref p,.ref np]) (_:H p=some (.ins C dx [])) (_:H np=some (.tup (ns.map V.str))) (_:1<=ns.length) (_:ns.length<=8) (_:∀(sl bl m r:Addr)(H':Hp),H sl=none->H bl=none->LogAt C H' p dx sl bl [.ref m] []->MindAt H' m np r (List.replicate (2 ^ ns.length) (0:Int))->(∀ b o,H b=some o->b≠p->H' b=some o)->Q .non H')
theorem scFlat:FnScope ["names"] ["names"] (aB S17):=mkS
theorem Ko(T:Txt P w K mg t):FO P w K mg base 1 t.a17 t.d17 ["names"] spFlat:=by
 refine T.q17.F.ok2 scFlat (fun cdv A outer s H vs Q E hr h=>?_);obtain⟨p,ns,rfl,hp,h1,h8,k⟩:=h;have nd:=scFlat.nd;refine⟨_,(aq (aA (bw (aa (pvl 0) (aa (aG J9 (bw (aa ak aj)) (aG eV ak (aZ aX T.zd Bt.len (aa (pvl 0) aj)))) aj))))),?_⟩;have h256:2 ^ ns.length<=256:=Nat.pow_le_pow_right (n:=2) (by decide) h8;have h2:2<=2 ^ ns.length:=Nat.pow_le_pow_right (n:=2) (i:=1) (by decide) h1;have e1:(1:Int) * 2 ^ (((ns.map V.str).length:Nat):Int).toNat=((2 ^ ns.length:Nat):Int):=by rw[qlm,Int.toNat_natCast];simp
 have er:(List.replicate (2 ^ ns.length) [V.int 0]).flatten=(List.replicate (2 ^ ns.length) (0:Int)).map V.int:=by simp
 refine⟨_,rfl,lk (by first|exact qnb rfl|simp),fun q hq=>?_⟩;have u1:=aD (o:=.tup [.int 0]) hq;refine⟨_,rfl,p,_,rfl,.inr (SqT.of (u1 _ _ hp)),_,_,rfl,rfl,⟨by rw[qlm];omega,by rw[qlm];omega,by decide⟩,?_⟩
 try dsimp -proj -iota only
 rw[e1];refine⟨q,_,[.int 0],rfl,rfl,SqT.of au,List.cons_ne_nil _ _,by omega,by omega,?_,fun q2 hq2=>?_⟩
 . rw[Int.toNat_natCast]
   exact lk (by simp;omega)
 rw[Int.toNat_natCast,er];have u2:=aD (o:=.tup ((List.replicate (2 ^ ns.length) (0:Int)).map V.int)) hq2;refine⟨lk (by first|exact qnb rfl|simp),fun a ha=>?_⟩;have u3:=aD (o:=.tup [.ref p,.ref q2]) ha;exact k a q2 _ ((u1.trans u2).trans u3) (u3 _ _ au) au
theorem scLInit:FnScope ["self","names"] ["self","names"] (aB S33):=mkS
theorem Ho(T:Txt P w K mg t):FO P w K mg base 2 t.a33 t.d33 ["self","names"] (spLInit t.zc):=by
 have G17:=Ko (base:=base) T;refine T.q33.F.ok2 scLInit (fun cdv A outer s H vs Q E hr h=>?_);obtain⟨p,dx,np,ns,rfl,hp,hn,h1,h8,k⟩:=h;have nd:=scLInit.nd
 refine⟨_,(ao (iQ (pvl 0) (bF (aa (aQ G17 (hr.mo) T.q17.m T.q17.k T.q17.b aJ (aa (pvl 1) aj)) aj)) rfl)
   (aq (iQ (pvl 0) (bF aj) rfl))),?_⟩
 refine⟨_,rfl,np,ns,rfl,hn,h1,h8,fun m r H1 s1 hr1 hm1=>⟨lk (by first|exact qnb rfl|simp),fun sl hsl=>?_⟩⟩;have u1:=aD (o:=.lst [.ref m]) hsl;have hp1:=s1 _ _ hp;have nps:p≠sl:=aM hp1 hsl;refine⟨_,rfl,p,t.zc,dx,_,rfl,u1 _ _ hp1,T.zg,T.zP,(by show 0<1000;decide),?_⟩;refine⟨lk (by first|exact qnb rfl|simp),fun bl hbl=>?_⟩;have npb:p≠bl:=aM au hbl;have hbl1:(upd H1 sl (.lst [.ref m])) bl=none:=by rw[aF (Ne.symm npb)]at hbl;exact hbl
 have nsb:sl≠bl:=aM au hbl1;have hbl2:H1 bl=none:=by rw[aF (Ne.symm nsb)]at hbl1;exact hbl1
 refine⟨_,rfl,p,t.zc,dx,_,rfl,by rw[aF npb];exact au,T.zg,T.zZ,(by show 1<1000;decide),?_⟩
 have keep:∀ b o,H1 b=some o->b≠p->(upd (upd (upd (upd H1 sl (.lst [.ref m])) p (.ins t.zc dx (bf "standing" (.ref sl) []))) bl (.lst [])) p (.ins t.zc dx (bf "taken_back" (.ref bl) (bf "standing" (.ref sl) [])))) b=some o:=fun b o e hb=>by
  rw[aF hb,aF (aM e hbl2),aF hb,aF (aM e hsl)];exact e
 refine k sl bl m r _ (s1.free hsl) (s1.free hbl2) ⟨au,nsb,?_,?_⟩ ⟨keep _ _ hm1 (bH hm1 hp1 (by intro z;cases z)),keep _ _ hr1 (bH hr1 hp1 (by intro z;cases z)),?_⟩ fun b o e hb=>keep b o (s1 _ _ e) hb
 . rw[aF (Ne.symm nps),aF nsb,aF (Ne.symm nps),au]
 . rw[aF (Ne.symm npb),au]
 . rw[List.length_replicate]
   exact Nat.pow_le_pow_right (n:=2) (by decide) h8
inductive spMixed(vs:List V)(H:Hp)(Q:VK)(E:XK):Prop
 |mk (c k:Int) (_:vs=[.int c,.int k]) (_:0<=k) (_:k<2 ^ 20) (_:∀ m:Int,0<=m->Q (.int m) H)
theorem scMixed:FnScope ["_law_cell","_law_k"] ["_law_cell","_law_k"] (aB S93):=mkS
theorem wR(T:Txt P w K mg t):FO P w K mg base 1 t.a93 t.d93 ["_law_cell","_law_k"] spMixed:=by
 refine T.q93.F.ok2 scMixed (fun cdv A outer s H vs Q E hr h=>?_);obtain⟨c,k,rfl,h0,h1,q⟩:=h;have nd:=scMixed.nd;refine⟨_,(aq (aA (aG bU (aG gQ (aG gQ (aG eU (aG bU (pvl 0) ak) ak) (aG eU (aG gQ (pvl 1) (pvl 1)) ak)) ak) ak))),?_⟩;have m1:CMul k k:=.inl ⟨by omega,by omega⟩;have b0:=qen c (show(2305843009213693951:Int)≠0 by decide);have b1:=qel c (show(0:Int)<2305843009213693951 by decide);have m2:CMul (c % 2305843009213693951+1) (k * k+48271):=.inl ⟨by omega,by omega⟩;refine⟨_,rfl,_,_,rfl,rfl,(by show(0:Int)<2305843009213693951;decide),_,_,rfl,rfl,_,rfl,_,rfl,_,_,rfl,rfl,m1,_,_,rfl,rfl,_,_,rfl,rfl,m2,_,_,rfl,rfl,.inr ⟨by decide,by decide⟩,_,_,rfl,rfl,(by show(0:Int)<2147483399;decide),q _ (qen _ (by decide))⟩
inductive spTB(n:Nat)(vs:List V)(H:Hp)(Q:VK)(E:XK):Prop
 |mk (p:Addr) (ns:List Str) (c d:Int) (_:vs=[.ref p,.int c,.int d]) (_:H p=some (.tup (ns.map V.str))) (_:1<=ns.length) (_:ns.length<=8) (_:0<=d) (_:d<n) (_:∀(v:V)(tr:Tr)(H':Hp),Same H H'->TrAt H' v tr->tr.depth<=n->tr.size+1<=2 ^ n->(∀ x∈tr.names,x∈ns)->Q v H')
theorem scTB:FnScope ["_law_names","_law_cell","_law_deep","_law_sort","_law_rest","_law_one","_law_verb"] ["_law_names","_law_cell","_law_deep"] (aB S95):=mkS
theorem Bk(T:Txt P w K mg t):∀ n:Nat,FO P w K mg base (n+1) t.a95 t.d95 ["_law_names","_law_cell","_law_deep"] (spTB n)
 | 0=>by
  refine T.q95.F.ok1 scTB (fun vs H Q E h=>by obtain⟨p,ns,c,d,rfl,_⟩:=h;rfl) (fun cdv A outer s H vs Q E hr h=>?_);obtain⟨p,ns,c,d,rfl,_,_,_,h0,h1,_⟩:=h;omega
 | n + 1 => by
  have G95:=Bk T n;refine T.q95.F.ok1 scTB (fun vs H Q E h=>by obtain⟨p,ns,c,d,rfl,_⟩:=h;rfl) (fun cdv A outer s H vs Q E hr h=>?_);obtain⟨p,ns,c,d,rfl,hp,h1,h8,hd0,hdn,k⟩:=h;have nd:=scTB.nd;have hpow:1<=2 ^ n:=Nat.one_le_two_pow;have hpow2:2 ^ (n+1)=2 ^ n+2 ^ n:=by rw[Nat.pow_succ];omega
  refine⟨_,(ao (psl 3 nd (aG bU (pvl 1) ak))
   (ao (psl 4 nd (aG iz (pvl 1) ak))
   (ao (aV (PW.pt (gm (aH aW (pvl 2) ak (aN _)) (gP (aH lB (pvl 3) ak (aN _)))))
    (ao (aV (aH aW (aG bU (pvl 4) ak) ak (aN _))
     (aq (aA (bw (aa az aj))))
     aP)
    (ao (aV (aH aW (aG bU (pvl 4) ak) ak (aN _))
     (aq (aA (bw (aa az aj))))
     aP)
    (aq (aA (bw (aa az (aa (pix aK (pvl 0) (aG bU (aG iz (pvl 4) ak) (aZ aX T.zd Bt.len (aa (pvl 0) aj)))) aj)))))))
    aP)
   (ao (psl 5 nd (aQ G95 (hr.mo) T.q95.m T.q95.k T.q95.b aJ (aa (pvl 0) (aa (aG bU (aG gQ (pvl 4) ak) ak) (aa (aG dW (pvl 2) ak) aj)))))
   (ao (aV (aH lB (pvl 3) ak (aN _))
    (aq (aA (bw (aa az (aa (pvl 5) aj)))))
    aP)
   (ao (psl 6 nd (pix cg (bF (aa az (aa az (aa az (aa az (aa az (aa az aj))))))) (aG dW (pvl 3) ak)))
   (aq (aA (bw (aa (pvl 6) (aa (pvl 5) (aa (aQ G95 (hr.mo) T.q95.m T.q95.k T.q95.b aJ (aa (pvl 0) (aa (aG bU (aG gQ (pvl 4) ak) ak) (aa (aG dW (pvl 2) ak) aj)))) aj)))))))))))),?_⟩
  refine⟨_,rfl,_,_,rfl,rfl,(by show(0:Int)<11;decide),?_⟩;refine⟨_,rfl,_,_,rfl,rfl,⟨by decide,by decide⟩,?_⟩
  try dsimp -proj -iota only
  have hw0:=qen c (show(11:Int)≠0 by decide);have hw9:=qel c (show(0:Int)<11 by decide);generalize c % 11=way at hw0 hw9 ⊢;generalize c / 11=rest;refine⟨_,rfl,rfl,_,rfl,aU (fun c1=>bT ?A1) (fun c1=>⟨_,rfl,_,_,rfl,rfl,_,rfl,aU (fun c2=>?A2) (fun c2=>?B)⟩)⟩
  case A1 | A2 =>
   refine⟨_,rfl,_,_,rfl,rfl,(by show(0:Int)<12;decide),rfl,_,rfl,aU (fun _=>?_) (fun _=>⟨_,rfl,_,_,rfl,rfl,(by show(0:Int)<12;decide),rfl,_,rfl,aU (fun _=>?_) (fun _=>?_)⟩)⟩
   . refine⟨lk (by first|exact qnb rfl|simp),fun p1 hp1=>?_⟩
     exact k (.ref p1) .yes _ (aD hp1) (.yes au) (by show 1<=n+1;omega) (by show 1+1<=2 ^ (n+1);omega) fun x hx=>by cases hx
   . refine⟨lk (by first|exact qnb rfl|simp),fun p1 hp1=>?_⟩
     exact k (.ref p1) .no _ (aD hp1) (.no au) (by show 1<=n+1;omega) (by show 1+1<=2 ^ (n+1);omega) fun x hx=>by cases hx
   . have el:((ns.map V.str).length:Int)=ns.length:=by rw[qlm]
     have hq0:=qen (rest / 12) (by omega:((ns.length:Int))≠0);have hq1:=qel (rest / 12) (by omega:0<(ns.length:Int));have hlt:(rest / 12 % (ns.length:Int)).toNat<ns.length:=by omega
     refine⟨_,rfl,_,rfl,_,_,rfl,rfl,⟨by decide,by decide⟩,_,rfl,p,_,rfl,.inr (SqT.of hp),_,_,rfl,rfl,(by rw[el];omega),p,_,_,V.str ns[(rest / 12 % (ns.length:Int)).toNat],rfl,rfl,SqT.of hp,qH (by rw[el];exact hq0) ?_,lk (by first|exact qnb rfl|simp),fun q hq=>?_⟩
     . rw[el,qgm,List.getElem?_eq_getElem hlt]
       rfl
     . exact k (.ref q) (.nm ns[(rest / 12 % (ns.length:Int)).toNat]) _ (aD hq) (.nm au) (by show 1<=n+1;omega) (by show 1+1<=2 ^ (n+1);omega) fun x hx=>by
        have hx:x∈[ns[(rest / 12 % (ns.length:Int)).toNat]]:=hx;rw[List.mem_singleton.mp hx];exact List.getElem_mem hlt
  case B =>
   have hd1:1<=d:=by
    have:¬ d=0:=fun z=>c1 (qdt (congrArg V.int z))
    omega
   have hw2:3<=way:=by
    have:¬ way<3:=fun z=>c2 (qdt z)
    omega
   refine⟨_,rfl,_,rfl,_,_,rfl,rfl,.inr ⟨by decide,by decide⟩,_,_,rfl,rfl,(by show(0:Int)<2147483647;decide),_,rfl,_,_,rfl,rfl,p,ns,_,d - 1,rfl,hp,h1,h8,by omega,by omega,fun v1 t1 H1 s1 ht1 hdp1 hsz1 hn1=>?_⟩;refine⟨_,rfl,_,_,rfl,rfl,_,rfl,aU (fun _=>?_) (fun c3=>?_)⟩
   . refine⟨_,rfl,lk (by first|exact qnb rfl|simp),fun q hq=>?_⟩
     exact k (.ref q) (.not t1) _ (s1.trans (aD hq)) (.not au (ht1.mono (aD hq).tups)) (by show t1.depth+1<=n+1;omega) (by show t1.size+1+1<=2 ^ (n+1);omega) hn1
   . have hw5:5<=way:=by
      have:¬ way<5:=fun z=>c3 (qdt z)
      omega
     refine⟨lk (by first|exact qnb rfl|simp),fun q1 hq1=>?_⟩;have s3:=aD (o:=.lst [.str "and",.str "or",.str "then",.str "same",.str "and",.str "or"]) hq1
     obtain⟨o,ho⟩:∃ o:Op,atI [V.str "and",V.str "or",V.str "then",V.str "same",V.str "and",V.str "or"] (way - 5)=some (.str o.str):=by
      have hw:way - 5=0\/way - 5=1\/way - 5=2\/way - 5=3\/way - 5=4\/way - 5=5:=by omega
      rcases hw with hw|hw|hw|hw|hw|hw <;> rw[hw]
      . exact⟨.and,rfl⟩
      . exact⟨.or,rfl⟩
      . exact⟨.thn,rfl⟩
      . exact⟨.same,rfl⟩
      . exact⟨.and,rfl⟩
      . exact⟨.or,rfl⟩
     refine⟨_,rfl,_,_,rfl,rfl,q1,_,_,.str o.str,rfl,rfl,SqL.of au,ho,?_⟩;have s13:=s1.trans s3;refine⟨_,rfl,_,rfl,_,rfl,_,rfl,_,_,rfl,rfl,.inr ⟨by decide,by decide⟩,_,_,rfl,rfl,(by show(0:Int)<2147483629;decide),_,rfl,_,_,rfl,rfl,p,ns,_,d - 1,rfl,s13 _ _ hp,h1,h8,by omega,by omega,fun v2 t2 H2 s2 ht2 hdp2 hsz2 hn2=>⟨lk (by first|exact qnb rfl|simp),fun q2 hq2=>?_⟩⟩;have s4:=aD (o:=.tup [.str o.str,v1,v2]) hq2;refine k (.ref q2) (.bin o t1 t2) _ ((s13.trans s2).trans s4) (.bin (o:=o) au (ht1.mono ((s3.trans s2).trans s4).tups) (ht2.mono s4.tups)) (by show max t1.depth t2.depth+1<=n+1;omega) (by show t1.size+t2.size+1+1<=2 ^ (n+1);omega) fun x hx=>?_
     rcases List.mem_append.mp hx with hx|hx
     . exact hn1 x hx
     . exact hn2 x hx
inductive spColumn(vs:List V)(H:Hp)(Q:VK)(E:XK):Prop
 |mk (n k:Nat) (_:vs=[.int n,.int k]) (_:k<n) (_:n<=8) (_:Q (.int (dH n k:Nat)) H)
theorem pw1(k:Nat):(1:Int) * 2 ^ ((k:Nat):Int).toNat=((2 ^ k:Nat):Int):=by rw[Int.toNat_natCast];simp
theorem vN{k:Nat}(h:k<=8):2 ^ k<=256:=Nat.pow_le_pow_right (n:=2) (by decide) h
theorem pwI{k:Nat}(h:k<=8):(0:Int)<=((2 ^ k:Nat):Int)/\((2 ^ k:Nat):Int)<=1000:=⟨Int.natCast_nonneg _,Int.ofNat_le.mpr (qnt (vN h) (by decide))⟩
theorem mL{i j:Int}(h0:0<=j)(h1:j<=1000)(hi:i.natAbs<2 ^ 256 * 2 ^ 44):tQ i j:=⟨h0,by omega,Nat.lt_of_lt_of_le hi (by rw[<- Nat.pow_add];exact Nat.pow_le_pow_right (by decide) (by decide))⟩
theorem ph:(1:Int).natAbs<2 ^ 256 * 2 ^ 44:=by decide
theorem Bl{m:Nat}(h:m<=256):(((2 ^ m - 1:Nat):Int)).natAbs<2 ^ 256 * 2 ^ 44:=by
 rw[Int.natAbs_natCast];have h1:2 ^ m<=2 ^ 256:=Nat.pow_le_pow_right (by decide) h;have h2:1<=2 ^ m:=Nat.one_le_two_pow;omega
theorem pw2(m:Nat):(1:Int) * 2 ^ ((m:Nat):Int).toNat - 1=((2 ^ m - 1:Nat):Int):=by
 rw[pw1];have:1<=2 ^ m:=Nat.one_le_two_pow;omega
theorem DP{j k:Nat}(h:j<=8):(((dH j k:Nat):Int)).natAbs<2 ^ 256 * 2 ^ 44:=by
 rw[Int.natAbs_natCast];have h1:dH j k<2 ^ (2 ^ j):=pR _ _;have h2:2 ^ (2 ^ j)<=2 ^ 256:=Nat.pow_le_pow_right (by decide) (vN h);omega
theorem scColumn:FnScope ["_law_many","_law_place","_law_told","_law_size"] ["_law_many","_law_place"] (aB S96):=mkS
theorem DQ(T:Txt P w K mg t):FO P w K mg base 1 t.a96 t.d96 ["_law_many","_law_place"] spColumn:=by
 refine T.q96.F.ok2 scColumn (fun cdv A outer s H vs Q E hr h=>?_);obtain⟨n,kk,rfl,hk,hn,k⟩:=h;have nd:=scColumn.nd
 refine⟨_,(ao (psl 2 nd (aG ji (aG dW (aG ji ak (aG ji ak (pvl 1))) ak) (aG ji ak (pvl 1))))
   (ao (psl 3 nd (aG ji ak (pvl 1)))
   (ao (j8 own1 (aH lB (pvl 3) (aG ji ak (pvl 0)) (aN _))
    (ao (psl 2 nd (aG mW (pvl 2) (aG ji (pvl 2) (pvl 3))))
    (aq (psl 3 nd (aG gQ ak (pvl 3))))))
   (aq (aA (pvl 2)))))),?_⟩
 have hk8:=vN (show kk<=8 by omega);have cA:tQ 1 ((kk:Nat):Int):=mL (by omega) (by omega) ph;have cA2:tQ 2 ((kk:Nat):Int):=mL (by omega) (by omega) (by decide)
 have cB:tQ 1 ((1:Int) * 2 ^ ((kk:Nat):Int).toNat):=by
  rw[pw1];exact mL (pwI (by omega)).1 (pwI (by omega)).2 ph
 have cC:tQ ((1:Int) * 2 ^ ((1:Int) * 2 ^ ((kk:Nat):Int).toNat).toNat - 1) ((1:Int) * 2 ^ ((kk:Nat):Int).toNat):=by
  rw[pw1,pw2];exact mL (pwI (by omega)).1 (pwI (by omega)).2 (Bl hk8)
 refine⟨_,rfl,_,_,rfl,rfl,cA,_,_,rfl,rfl,cB,_,_,rfl,rfl,_,rfl,_,_,rfl,rfl,cA,_,_,rfl,rfl,cC,?_⟩
 have e0:((1:Int) * 2 ^ ((1:Int) * 2 ^ ((kk:Nat):Int).toNat).toNat - 1) * 2 ^ ((1:Int) * 2 ^ ((kk:Nat):Int).toNat).toNat=((dH (kk+1) kk:Nat):Int):=by
  rw[pw1,pw2,Int.toNat_natCast,<- Dz,Int.natCast_mul];simp
 try dsimp -proj -iota only
 rw[e0];refine⟨_,rfl,_,_,rfl,rfl,cA2,?_⟩
 have e1:(2:Int) * 2 ^ ((kk:Nat):Int).toNat=((2 ^ (kk+1):Nat):Int):=by
  rw[Int.toNat_natCast,Nat.pow_succ,Nat.mul_comm,Int.natCast_mul];simp
 try dsimp -proj -iota only
 rw[e1];refine⟨fun m σ H2=>∃ j:Nat,σ=[some (.int n),some (.int kk),some (.int (dH j kk:Nat)),some (.int (2 ^ j:Nat))]/\H2=H/\kk<j/\j<=n/\m=n - j,⟨_,kk+1,rfl,rfl,by omega,by omega,rfl⟩,?_⟩;rintro m σ H2 ⟨j,rfl,rfl,hj,hjn,rfl⟩;refine⟨_,rfl,_,rfl,_,_,rfl,rfl,mL (by omega) (by omega) ph,?_⟩
 try dsimp -proj -iota only
 rw[pw1];refine⟨_,_,rfl,rfl,_,rfl,aU (fun c=>?_) (fun c=>?_)⟩
 . have c:((2 ^ j:Nat):Int)<((2 ^ n:Nat):Int):=qod c
   have hjl:j<n:=by
    rcases Nat.lt_or_ge j n with h|h
    . exact h
    . have:2 ^ n<=2 ^ j:=Nat.pow_le_pow_right (by decide) h
      omega
   have hj8:=vN (show j<=8 by omega);refine⟨fun σ' H'=>∃ m',m'<n - j/\∃ j:Nat,σ'=[some (.int n),some (.int kk),some (.int (dH j kk:Nat)),some (.int (2 ^ j:Nat))]/\H'=H2/\kk<j/\j<=n/\m'=n - j,fun _ _ h=>h,?_⟩;refine⟨_,rfl,_,rfl,_,rfl,_,_,rfl,rfl,mL (pwI (by omega)).1 (pwI (by omega)).2 (DP (by omega)),?_⟩;have e2:((dH j kk:Nat):Int) * 2 ^ ((2 ^ j:Nat):Int).toNat=((dH j kk * 2 ^ (2 ^ j):Nat):Int):=by rw[Int.toNat_natCast,Int.natCast_mul];simp
   try dsimp -proj -iota only
   rw[e2];refine⟨_,_,rfl,rfl,?_⟩
   try dsimp -proj -iota only
   rw[bor,GF hj];refine⟨_,rfl,_,_,rfl,rfl,.inl ⟨by decide,by decide⟩,?_⟩;have e3:(2:Int) * ((2 ^ j:Nat):Int)=((2 ^ (j+1):Nat):Int):=by rw[Nat.pow_succ];omega
   try dsimp -proj -iota only
   rw[e3];exact⟨_,by omega,j+1,rfl,rfl,by omega,by omega,rfl⟩
 . have c:¬ ((2 ^ j:Nat):Int)<((2 ^ n:Nat):Int):=fun z=>c (qdt z)
   have hjl:j=n:=by
    rcases Nat.lt_or_ge j n with h|h
    . have:2 ^ j<2 ^ n:=Nat.pow_lt_pow_right (by decide) h
      omega
    . omega
   subst hjl;exact⟨_,rfl,k⟩
inductive spLTable(d:Nat)(vs:List V)(H:Hp)(Q:VK)(E:XK):Prop
 |mk (p:Addr) (v:V) (ns:List Str) (tr:Tr) (_:vs=[.ref p,v]) (_:H p=some (.tup (ns.map V.str))) (_:ns.length<=8) (_:TrAt H v tr) (_:tr.depth<=d) (_:(∀ x∈tr.names,x∈ns)) (_:∀ H',Same H H'->Q (.int (aR ns tr:Nat)) H')
theorem yO(x y:Str):eqV (.str x) (.str y)=decide (x=y):=by
 show(x == y)=_
 by_cases z:x=y
 . simp[z]
 . simp[z]
theorem uV(ns:List Str){j:Nat}(h:j<ns.length):(ns.map V.str).getD j .non = .str ns[j]:=by
 rw[List.getD,qgm,List.getElem?_eq_getElem h]
 rfl
theorem Bm{ns:List Str}{x:Str}{m:Nat}(h:m<ns.idxOf x)(hm:m<ns.length):¬ ns[m]=x:=by
 have:=List.not_of_lt_findIdx (p:=fun y=>y == x) (xs:=ns) (i:=m) h;intro z;rw[z]at this;simp at this
theorem scLTable:FnScope ["_law_names","_law_tree","_law_every","_law_one","_law_other"] ["_law_names","_law_tree"] (aB S97):=mkS
theorem jJ(T:Txt P w K mg t):∀ d:Nat,FO P w K mg base (d+2) t.a97 t.d97 ["_law_names","_law_tree"] (spLTable d)
 | 0=>by
  refine T.q97.F.ok1 scLTable (fun vs H Q E h=>by obtain⟨p,v,ns,tr,rfl,_⟩:=h;rfl) (fun cdv A outer s H vs Q E hr h=>?_);obtain⟨p,v,ns,tr,rfl,hp,h8,ht,hd,k⟩:=h;have:=tr.depth_pos;omega
 | d + 1=>by
  have G97:=jJ T d;have G96:=DQ (base:=base) T;refine T.q97.F.ok1 scLTable (fun vs H Q E h=>by obtain⟨p,v,ns,tr,rfl,_⟩:=h;rfl) (fun cdv A outer s H vs Q E hr h=>?_);obtain⟨p,v,ns,tr,rfl,hp,h8,ht,hd,hin,k⟩:=h;obtain⟨a,rest,rfl,ha,hnm,hkid⟩:=ht.open;have nd:=scLTable.nd
  refine⟨_,(ao (psl 2 nd (aG dW (aG eV ak (aG eV ak (aZ aX T.zd Bt.len (aa (pvl 0) aj)))) ak))
   (ao (aV (aH aW (pix aK (pvl 1) ak) az (aN _))
    (aq (aA (aQ G96 (hr.mo) T.q96.m T.q96.k T.q96.b aJ (aa (aZ aX T.zd Bt.len (aa (pvl 0) aj)) (aa (Mi PySem.F.slot_tuple_index PySem.F.type_tuple_index Df (pvl 0) (aa (pix aK (pvl 1) ak) aj)) aj)))))
    aP)
   (ao (aV (aH aW (pix aK (pvl 1) ak) az (aN _))
    (aq (aA (pvl 2)))
    aP)
   (ao (aV (aH aW (pix aK (pvl 1) ak) az (aN _))
    (aq (aA ak))
    aP)
   (ao (psl 3 nd (aQ G97 (hr.mo) T.q97.m T.q97.k T.q97.b aJ (aa (pvl 0) (aa (pix aK (pvl 1) ak) aj))))
   (ao (aV (aH aW (pix aK (pvl 1) ak) az (aN _))
    (aq (aA (aG mD (pvl 2) (pvl 3))))
    aP)
   (ao (psl 4 nd (aQ G97 (hr.mo) T.q97.m T.q97.k T.q97.b aJ (aa (pvl 0) (aa (pix aK (pvl 1) ak) aj))))
   (ao (aV (aH aW (pix aK (pvl 1) ak) az (aN _))
    (aq (aA (aG eX (pvl 3) (pvl 4))))
    aP)
   (ao (aV (aH aW (pix aK (pvl 1) ak) az (aN _))
    (aq (aA (aG mW (pvl 3) (pvl 4))))
    aP)
   (ao (aV (aH aW (pix aK (pvl 1) ak) az (aN _))
    (aq (aA (aG mW (aG mD (pvl 2) (pvl 3)) (pvl 4))))
    aP)
   (aq (aA (aG mD (aG mD (pvl 2) (pvl 3)) (pvl 4)))))))))))))),?_⟩
  have el:(ns.map V.str).length=ns.length:=qlm _;have ix0:atI (V.str tr.tag::rest) 0=some (.str tr.tag):=b8 (j:=0) rfl;have c1:lU 1 (((ns.map V.str).length:Nat):Int):=⟨by omega,by rw[el];omega,by decide⟩
  have c2:lU 1 ((1:Int) * 2 ^ (((ns.map V.str).length:Nat):Int).toNat):=by
   rw[el,pw1];exact⟨(pwI h8).1,by have:=(pwI h8).2;omega,by decide⟩
  have ef:(1:Int) * 2 ^ ((1:Int) * 2 ^ (((ns.map V.str).length:Nat):Int).toNat).toNat - 1=((cz ns.length:Nat):Int):=by
   rw[el,pw1,pw2]
   rfl
  refine⟨_,rfl,p,_,rfl,.inr (SqT.of hp),_,_,rfl,rfl,c1,_,_,rfl,rfl,c2,_,_,rfl,rfl,?_⟩
  try dsimp -proj -iota only
  rw[ef];refine⟨_,rfl,a,_,0,.str tr.tag,rfl,rfl,SqT.of ha,ix0,rfl,_,rfl,aU (fun c=>?N) (fun c1=>⟨_,rfl,a,_,0,.str tr.tag,rfl,rfl,SqT.of ha,ix0,rfl,_,rfl,aU (fun c=>?Y) (fun c2=>⟨_,rfl,a,_,0,.str tr.tag,rfl,rfl,SqT.of ha,ix0,rfl,_,rfl,aU (fun c=>?O) (fun c3=>?R)⟩)⟩)⟩
  case N =>
   obtain⟨x,rfl⟩:=Jp (qod c);have hx:x∈ns:=hin x qms;have hi:=List.idxOf_lt_length_iff.mpr hx;have hg:ns[ns.idxOf x]=x:=List.getElem_idxOf hi;refine⟨_,rfl,p,_,rfl,.inr (SqT.of hp),_,rfl,p,_,rfl,hp,_,rfl,a,_,1,.str x,rfl,rfl,SqT.of (Hj ht),rfl,p,_,.str x,ns.idxOf x,rfl,rfl,SqT.of hp,rfl,uT ns,by rw[el];exact hi,?_,fun m hm=>?_,ns.length,ns.idxOf x,?_,hi,h8,k H (Same.refl H)⟩
   . rw[uV ns hi,hg,yO,qdt rfl]
   . rw[uV ns (by omega),yO]
     exact qdf (Bm hm (by omega))
   . rw[el];rfl
  case Y =>
   obtain rfl:=DG (qod c);have k:=k H (Same.refl H);rw[Mm]at k;exact⟨_,rfl,k⟩
  case O =>
   obtain rfl:=Jq (qod c);have k:=k H (Same.refl H);rw[Ob]at k;exact k
  case R =>
   cases tr with
   |nm x=>exact absurd (qdt rfl) c1
   |yes=>exact absurd (qdt rfl) c2
   |no=>exact absurd (qdt rfl) c3
   | not u =>
    obtain⟨vu,hau,htu⟩:=Bj ht;have hd:u.depth+1<=d+1:=hd;refine⟨_,rfl,_,rfl,a,_,1,vu,rfl,rfl,SqT.of hau,rfl,p,vu,ns,u,rfl,hp,h8,htu,by omega,hin,fun H1 s1=>?_⟩;refine⟨_,rfl,a,_,0,.str "not",rfl,rfl,SqT.of (s1 _ _ hau),rfl,rfl,_,rfl,aU (fun c=>?_) (fun c=>absurd (qdt rfl) c)⟩;refine⟨_,rfl,_,rfl,_,_,rfl,rfl,?_⟩;have k:=k H1 s1;rw[Mr,<- bxor]at k;exact k
   | bin o x y =>
    obtain⟨vx,vy,hab,htx,hty⟩:=Bh ht;have hd:max x.depth y.depth+1<=d+1:=hd;have nn:¬ (decide (V.str o.str=V.str ("not":Str))=true):=fun z=>(m9 o).2.2.1 (V.str.inj (qod z))
    refine⟨_,rfl,_,rfl,a,_,1,vx,rfl,rfl,SqT.of hab,rfl,p,vx,ns,x,rfl,hp,h8,htx,by omega,fun z hz=>hin z (qal _ hz),fun H1 s1=>?_⟩;refine⟨_,rfl,a,_,0,.str o.str,rfl,rfl,SqT.of (s1 _ _ hab),rfl,rfl,_,rfl,aU (fun c=>absurd c nn) (fun _=>?_)⟩;refine⟨_,rfl,_,rfl,a,_,2,vy,rfl,rfl,SqT.of (s1 _ _ hab),rfl,p,vy,ns,y,rfl,s1 _ _ hp,h8,hty.mono s1.tups,by omega,fun z hz=>hin z (qar _ hz),fun H2 s2=>?_⟩;have s12:=s1.trans s2;have k:=k H2 s12;refine⟨_,rfl,a,_,0,.str o.str,rfl,rfl,SqT.of (s12 _ _ hab),rfl,rfl,_,rfl,aU (fun c=>?A) (fun c1=>⟨_,rfl,a,_,0,.str o.str,rfl,rfl,SqT.of (s12 _ _ hab),rfl,rfl,_,rfl,aU (fun c=>?O) (fun c2=>⟨_,rfl,a,_,0,.str o.str,rfl,rfl,SqT.of (s12 _ _ hab),rfl,rfl,_,rfl,aU (fun c=>?T) (fun c3=>?S)⟩)⟩)⟩
    case A =>
     obtain rfl:o = .and:=pX (o':=.and) (qod c);rw[Ms,<- band]at k;exact⟨_,rfl,_,rfl,_,_,rfl,rfl,k⟩
    case O =>
     obtain rfl:o = .or:=pX (o':=.or) (qod c);rw[Oc,<- bor]at k;exact⟨_,rfl,_,rfl,_,_,rfl,rfl,k⟩
    case T =>
     obtain rfl:o = .thn:=pX (o':=.thn) (qod c);rw[Mt,<- bor,<- bxor]at k;exact⟨_,rfl,_,rfl,_,_,rfl,rfl,_,rfl,_,_,rfl,rfl,k⟩
    case S =>
     obtain rfl:o = .same:=by
      cases o with
      |and=>exact absurd (qdt rfl) c1
      |or=>exact absurd (qdt rfl) c2
      |thn=>exact absurd (qdt rfl) c3
      |same=>rfl
     rw[Kg,<- bxor,<- bxor]at k;exact⟨_,rfl,_,rfl,_,_,rfl,rfl,_,rfl,_,_,rfl,rfl,k⟩
inductive spWhole(vs:List V)(H:Hp)(Q:VK)(E:XK):Prop
 |mk (i) (_:vs=[.int i]) (_:Q (.bl true) H)
theorem scWhole:FnScope ["_law_found"] ["_law_found"] (aB S92):=mkS
theorem Hq(T:Txt P w K mg t):FO P w K mg base 1 t.a92 t.d92 ["_law_found"] spWhole:=by
 refine T.q92.F.ok2 scWhole (fun cdv A outer s H vs Q E hr h=>?_);obtain⟨i,rfl,k⟩:=h;have nd:=scWhole.nd;refine⟨_,(aq (aA (ou (aZ fW T.zq Bt.isinstance (aa (pvl 0) (aa (jR (v:=.ty "int") T.zL Bt.int rfl) aj))) (my (Ld (aZ fW T.zq Bt.isinstance (aa (pvl 0) (aa (jR (v:=.ty "bool") T.zaJ Bt.bool rfl) aj)))))))),?_⟩;refine⟨_,rfl,_,_,_,_,true,rfl,rfl,.int _,rfl,_,rfl,?_⟩;exact⟨_,rfl,_,_,_,_,false,rfl,rfl,.int _,rfl,_,rfl,k⟩
inductive spLTurn(t:Adr)(vs:List V)(H:Hp)(Q:VK)(E:XK):Prop
 |mk (p dx sl bl:Addr) (mv bv:List V) (a np r:Addr) (rs:List Int) (v:V) (ns:List Str) (tr:Tr) (lean:Int) (_:vs=[.ref p,v,.int lean]) (_:LogAt t.zc H p dx sl bl (mv++[.ref a]) bv) (_:mv.length<=400) (_:MindAt H a np r rs) (_:Fits H np v ns tr) (_:((∀ x∈tr.names,x∈ns)->match aO (sel rs (aC ns tr)),aO (sel rs (aR ns tr))with|none,_=>∀ H',Same H H'->E (.ref t.zh) none H'|some _,none=>∀ H',Same H H'->E (.ref t.zi) none H'|some x,some y=>∀(b q bl':Addr)(H':Hp),H bl'=none->nj p sl H H'->LogAt t.zc H' p dx sl bl' (mv++[.ref a]++[.ref b]) []->MindAt H' b np q (eZ rs (aC ns tr) x y lean)->Q .non H')) (_:((¬ ∀ x∈tr.names,x∈ns)->∀ H',Same H H'->E (.ref t.zf) none H'))
theorem scLTurn:FnScope ["self","tree","lean"] ["self","tree","lean"] (aB S37):=mkS
theorem Hr(T:Txt P w K mg t):FO P w K mg base 121 t.a37 t.d37 ["self","tree","lean"] (spLTurn t):=by
 have G34:=oY (base:=base) T;have G41:=ni (base:=base) T;have G28:=t7 (base:=base) T;refine T.q37.F.ok2 scLTurn (fun cdv A outer s H vs Q E hr h=>?_);obtain⟨p,dx,sl,bl,mv,bv,a,np,r,rs,v,ns,tr,lean,rfl,U,h400,hm,fit,k,kn⟩:=h;have nd:=scLTurn.nd;refine⟨_,(aq (bA (iC (pvl 0) T.zg T.q34.e G34 (hr.mo) T.q34.b .nil aJ (aa (aQ G28 (hr.mo) T.q28.m T.q28.k T.q28.b bx (aa (dz (pvl 0) T.zg T.q41.e G41 (hr.mo) T.q41.b .nil aJ) (aa (pvl 1) (aa (pvl 2) aj)))) aj)))),?_⟩;refine⟨_,rfl,p,dx,_,rfl,U.ob,iU _ _ (by decide +kernel) (by decide +kernel),_,rfl,p,dx,_,rfl,U.ob,iU _ _ (by decide +kernel) (by decide +kernel),p,dx,sl,bl,mv,bv,.ref a,rfl,U,_,rfl,_,rfl,a,np,r,rs,v,ns,tr,lean,rfl,hm,fit,fun hall=>?_,kn⟩;have k:=k hall;cases hb:aO (sel rs (aC ns tr))with
 | none =>
  rw[hb]at k;exact k
 | some x =>
  cases hk:aO (sel rs (aR ns tr))with
  | none =>
   rw[hb,hk]at k;exact k
  | some y =>
   rw[hb,hk]at k;exact fun b q H1 s1 hm1=>⟨p,dx,sl,bl,mv++[.ref a],bv,.ref b,rfl,U.mono s1,by rw[List.length_append];show mv.length+1<=500;omega,fun bl' H2 hbn U2 kp=>k b q bl' H2 (s1.free hbn) (fun c o e h1 h2=>kp c o (s1 _ _ e) h1 h2) U2 (oZ (U.mono s1) kp hm1)⟩
structure Names(ns:List Str):Prop where
 nd:ns.Nodup
 nm:∀ x∈ns,IsName x
inductive spNames2(vs:List V)(H:Hp)(Q:VK)(E:XK):Prop
 |mk (c n:Int) (_:vs=[.int c,.int n]) (_:1<=n) (_:n<=8) (_:∀(p:Addr)(ns:List Str)(H':Hp),Same H H'->H' p=some (.tup (ns.map V.str))->ns.length=n.toNat->Names ns->Q (.ref p) H')
def qO(c:Nat)(n:Nat):Str:=⟨(List.replicate n c).toArray⟩
theorem pq(c n:Nat):(qO c n).cps.toList=List.replicate n c:=by simp[qO]
theorem Kp(c:Nat)(n:Int):Txt.mul ⟨#[c]⟩ n=qO c n.toNat:=by
 refine Ke ?_;rw[mul_one_list,pq]
theorem jT{i:Int}(h0:0<=i)(h:i<26):atI letters.cps.toList i=some (97+i.toNat):=qH h0 (Bf i.toNat (by omega))
theorem uc(c:Nat):(⟨#[c]⟩:Str).length=1:=rfl
theorem Kq(f:Nat->Nat)(n:Nat)(z:Str):(((List.range n).map fun i=>(⟨#[f i]⟩:Str)).map (·.length)).sum+((List.range n).map fun i=>(⟨#[f i]⟩:Str)).length * z.length=n+n * z.length:=by
 have e:∀ l:List Nat,((l.map fun i=>(⟨#[f i]⟩:Str)).map (·.length)).sum=l.length:=by
  intro l
  induction l with
  |nil=>rfl
  | cons x r ih =>
   rw[List.map_cons,List.map_cons,List.sum_cons,ih,List.length_cons];show 1+r.length=_;omega
 rw[e,qlm,List.length_range]
theorem wU(f:Nat->Nat):∀ l:List Nat,(l.flatMap fun i=>[f i])=l.map f
 |[]=>rfl
 |x::r=>by rw[List.flatMap_cons,List.map_cons,wU f r];rfl
theorem DR:("":Str)=⟨#[]⟩:=by decide +kernel
theorem Hs(x:Str){u:Int}(hu:0<=u):(dC x (some u) none).cps.toList=x.cps.toList.drop u.toNat:=by
 rw[fD];have e:HT.sIx x.length x.length none=x.length:=rfl
 have e0:HT.sIx x.length 0 (some u)=min u.toNat x.length:=by
  show(if u<0 then _ else _)=_;rw[qnZ (by omega)]
 have lx:x.cps.toList.length=x.length:=Array.length_toList;rw[e,e0];rcases Nat.le_total u.toNat x.length with h1|h1
 . rw[Nat.min_eq_left h1]
   exact List.take_of_length_le (by rw[List.length_drop];omega)
 . rw[Nat.min_eq_right h1,List.drop_of_length_le (show x.cps.toList.length<=x.length by omega),List.drop_of_length_le (show x.cps.toList.length<=u.toNat by omega),List.take_nil]
theorem pA{n:Nat}(f:Nat->Str)(hi:∀ i j,i<n->j<n->f i=f j->i=j)(hn:∀ i,i<n->IsName (f i)):Names ((List.range n).map f):=by
 refine⟨?_,fun x hx=>?_⟩
 . rw[List.nodup_iff_pairwise_ne,List.pairwise_map]
   refine List.Pairwise.imp_of_mem (R:=fun a b=>a≠b) (fun {a b} ha hb hab e=>hab ?_) (List.nodup_iff_pairwise_ne.mp List.nodup_range);exact hi a b (List.mem_range.mp ha) (List.mem_range.mp hb) e
 . obtain⟨i,h,rfl⟩:=List.mem_map.mp hx
   exact hn i (List.mem_range.mp h)
def sgC(first:Int)(k:Nat):Nat:=97+((first+5 * k) % 26).toNat
def nmE(stem:Str)(place first:Int)(k:Nat):Str:=dC stem none (some place)++⟨#[sgC first k]⟩++dC stem (some place) none
theorem yP{first:Int}{i j:Nat}(hi:i<8)(hj:j<8)(h:sgC first i=sgC first j):i=j:=by
 unfold sgC at h;omega
theorem DW(first:Int)(k:Nat):97<=sgC first k/\sgC first k<=122:=by unfold sgC;omega
theorem vO{stem:Str}{place first:Int}(h0:0<=place)(k:Nat):(nmE stem place first k).cps.toList=stem.cps.toList.take place.toNat++[sgC first k]++stem.cps.toList.drop place.toNat:=by
 unfold nmE;rw[vM,vM,Ly _ h0,Hs _ h0]
def verbsL:List Str:=["back","take","worlds","again","names","give","lean","ask"]
theorem yd(m:Nat):Names (verbsL.take m):=by
 refine⟨List.Sublist.nodup (List.take_sublist _ _) (by decide +kernel),fun x hx=>?_⟩;have h:∀ x∈verbsL,1<=x.cps.toList.length/\x.cps.toList.length<=8/\∀ c∈x.cps.toList,97<=c/\c<=122:=by decide +kernel
 have:=h x (List.mem_of_mem_take hx);exact⟨this.1,this.2.1,this.2.2⟩
theorem scNames2:FnScope ["_law_cell","_law_many","_law_letters","_law_first","_law_size","_law_place","_law_stem"] ["_law_cell","_law_many"] (aB S94):=mkS
theorem DX(T:Txt P w K mg t):FO P w K mg base 1 t.a94 t.d94 ["_law_cell","_law_many"] spNames2:=by
 refine T.q94.F.ok2 scNames2 (fun cdv A outer s H vs Q E hr h=>?_);obtain⟨c,n,rfl,hn1,hn8,k⟩:=h;have nd:=scNames2.nd
 refine⟨_,(ao (psc 2 nd az)
   (ao (aV (aH aW (aG bU (pvc 0) ak) ak (aN _))
    (aq (aA (dh dB T.zn Bt.tuple (aa (ie tK (bF (aa az (aa az (aa az (aa az (aa az (aa az (aa az (aa az aj))))))))) jY (iD (pvc 1))) aj))))
    aP)
   (ao (psc 3 nd (aG bU (aG iz (pvc 0) ak) ak))
   (ao (aV (aH aW (aG bU (pvc 0) ak) ak (aN _))
    (aq (aA (dh dB T.zn Bt.tuple (aa (cj rfl ["_law_k","_law_letters","_law_first"] [none,some 2,some 3] (gj T.zp (aa (pvc 1) aj)) (by kernel_rfl) (fun _ _ _ _ _ _=>(pgl 0 (ndS (l:=["_law_k","_law_letters","_law_first"])))) (fun _ _ _ _ _ _=>cN) (fun _ _ _ _ _ _=>(pix oE (pvc 1) (aG bU (aG eU (pvc 2) (aG gQ ak (pvl 0))) ak)))) aj))))
    aP)
   (ao (aV (aH aW (aG bU (pvc 0) ak) ak (aN _))
    (aq (aA (dh dB T.zn Bt.tuple (aa (cj rfl ["_law_k","_law_letters","_law_first","_law_many"] [none,some 2,some 3,some 1] (gj T.zp (aa (pvc 1) aj)) (by kernel_rfl) (fun _ _ _ _ _ _=>(pgl 0 (ndS (l:=["_law_k","_law_letters","_law_first","_law_many"])))) (fun _ _ _ _ _ _=>cN) (fun _ _ _ _ _ _=>(aG Ba (pix oE (pvc 1) (pvc 2)) (aG dW (pvc 3) (pvl 0))))) aj))))
    aP)
   (ao (psl 4 nd (aG eU ak (aG bU (aG iz (pvc 0) ak) ak)))
   (ao (psc 5 nd (aG bU (aG iz (pvc 0) ak) (aG eU (pvl 4) ak)))
   (ao (psc 6 nd (bW PySem.F.plainAttrs_str PySem.F.slot_str_join PySem.F.type_str_join jZ az (aa (cj rfl ["_law_k","_law_letters","_law_cell"] [none,some 2,some 0] (gj T.zp (aa (pvl 4) aj)) (by kernel_rfl) (fun _ _ _ _ _ _=>(pgl 0 (ndS (l:=["_law_k","_law_letters","_law_cell"])))) (fun _ _ _ _ _ _=>cN) (fun _ _ _ _ _ _=>(pix oE (pvc 1) (aG bU (aG eU (aG iz (pvc 2) ak) (aG gQ ak (pvl 0))) ak)))) aj)))
   (aq (aA (dh dB T.zn Bt.tuple (aa (cj rfl ["_law_k","_law_stem","_law_letters","_law_place","_law_first"] [none,some 6,some 2,some 5,some 3] (gj T.zp (aa (pvc 1) aj)) (by kernel_rfl) (fun _ _ _ _ _ _=>(pgl 0 (ndS (l:=["_law_k","_law_stem","_law_letters","_law_place","_law_first"])))) (fun _ _ _ _ _ _=>cN) (fun _ _ _ _ _ _=>(aG bj (aG bj (ie wy (pvc 1) jY (iD (pvc 3))) (pix oE (pvc 2) (aG bU (aG eU (pvc 4) (aG gQ ak (pvl 0))) ak))) (ie wy (pvc 1) (iD (pvc 3)) jY)))) aj)))))))))))),?_⟩
 have lts:letters.length<=sizeLine:=by rw[xX];decide
 refine⟨_,rfl,_,_,rfl,rfl,(by show(0:Int)<16;decide),rfl,_,rfl,aU (fun _=>?b0) (fun _=>?b1)⟩
 case b0 =>
  refine⟨lk (by first|exact qnb rfl|simp),fun q0 hq0=>?_⟩;have s0:=aD (o:=.lst (verbsL.map V.str)) hq0;refine⟨_,rfl,_,rfl,q0,verbsL.map V.str,rfl,SqL.of au,fun p3 hp3=>?_⟩
  have ec:ig (verbsL.map V.str) none (some n)=(verbsL.take n.toNat).map V.str:=by
   rw[List.map_take];unfold ig HT.sIx;simp only[List.drop_zero,qlm];rw[qnZ (by omega),Nat.sub_zero,Nat.min_eq_left (by show n.toNat<=8;omega)]
  rw[ec];have s1:=aD (o:=.lst ((verbsL.take n.toNat).map V.str)) hp3;refine⟨p3,_,rfl,.inl ⟨SqL.of au,fun l hl=>?_⟩⟩;exact k l _ _ ((s0.trans s1).trans (aD hl)) au (by rw[List.length_take];show min n.toNat 8=_;omega) (yd _)
 case b1 =>
 refine⟨_,rfl,_,_,rfl,rfl,⟨by decide,by decide⟩,_,_,rfl,rfl,(by show(0:Int)<26;decide),?_⟩
 try dsimp -proj -iota only
 obtain⟨first,hfi,hf0,hf1⟩:∃ first:Int,c / 5 % 26=first/\0<=first/\first<26:=⟨_,rfl,by omega,by omega⟩
 rw[hfi];have hn:n.toNat<=8:=by omega
 have fin:∀(f:Nat->Str)(p3:Addr)(H2 H3:Hp),Same H H2->H2 p3=none->H3=upd H2 p3 (.lst (((List.range n.toNat).map f).map V.str))->Names ((List.range n.toNat).map f)->∀ l,H3 l=none->Q (.ref l) (upd H3 l (.tup (((List.range n.toNat).map f).map V.str))):=by
  rintro f p3 H2 H3 s2 hp3 rfl hN l hl;exact k l _ _ ((s2.trans (aD hp3)).trans (aD hl)) au (by simp) hN
 refine⟨_,rfl,_,_,rfl,rfl,(by show(0:Int)<5;decide),rfl,_,rfl,aU (fun _=>?a0) (fun _=>⟨_,rfl,_,_,rfl,rfl,(by show(0:Int)<5;decide),rfl,_,rfl,aU (fun _=>?a1) (fun _=>?a2)⟩)⟩
 case a0 =>
  refine⟨_,rfl,n,rfl,by omega,by omega,?_⟩;refine c7 (n:=n.toNat) (fun i=>.str ⟨#[sgC first i]⟩) (lk (by omega)) (fun i R hi r=>?_) (fun p3 hp3=>?_)
  . refine⟨⟨rfl,rfl,trivial⟩,?_⟩
    refine⟨_,rfl,_,rfl,_,rfl,_,_,rfl,rfl,.inl ⟨by decide,by decide⟩,_,_,rfl,rfl,_,_,rfl,rfl,(by show(0:Int)<26;decide),_,_,_,rfl,rfl,lts,jT (by omega) (by omega),?_⟩;have e:sgC first i=97+((first+5 * (0+(i:Int))) % 26).toNat:=by unfold sgC;rw[Int.zero_add]
    rw[<- e];exact r
  . have e:((List.range n.toNat).map fun i=>V.str ⟨#[sgC first i]⟩)=((List.range n.toNat).map fun i=>(⟨#[sgC first i]⟩:Str)).map V.str:=by rw[List.map_map];rfl
    rw[e]
    exact⟨p3,_,rfl,.inl ⟨SqL.of au,fun l hl=>fin _ p3 _ _ (Same.refl H) hp3 rfl (pA _ (fun i j hi hj h=>yP (first:=first) (by omega) (by omega) (by have:=congrArg (fun z:Str=>z.cps.toList) h;exact(List.cons.inj this).1)) (fun i _=>⟨by show 1<=1;decide,by show 1<=8;decide,fun x hx=>by
     have hx:x∈[sgC first i]:=hx
     rw[List.mem_singleton.mp hx];exact DW first i⟩)) l hl⟩⟩
 case a1 =>
  obtain⟨fill,hfe,hff⟩:∃ fill:Nat,97+first.toNat=fill/\97<=fill/\fill<=122:=⟨_,rfl,by omega,by omega⟩
  refine⟨_,rfl,n,rfl,by omega,by omega,?_⟩;refine c7 (n:=n.toNat) (fun(i:Nat)=>.str (qO fill (n - i).toNat)) (lk (by omega)) (fun i R hi r=>?_) (fun p3 hp3=>?_)
  . refine⟨⟨rfl,rfl,rfl,trivial⟩,?_⟩
    refine⟨_,rfl,_,rfl,_,_,_,rfl,rfl,lts,jT hf0 hf1,_,rfl,_,rfl,_,_,rfl,rfl,_,_,rfl,rfl,(by rw[uc];decide),?_,?_,?_⟩
    . show(-1000:Int)<=n - (0+(i:Int))
      omega
    . show n - (0+(i:Int))<=(1000:Int)
      omega
    . have e:Txt.mul ⟨#[97+first.toNat]⟩ (n - (0+(i:Int)))=qO fill (n - i).toNat:=by
       rw[Kp,Int.zero_add,hfe]
      rw[<- e]at r;exact r
  . have e:((List.range n.toNat).map fun(i:Nat)=>V.str (qO fill (n - i).toNat))=((List.range n.toNat).map fun(i:Nat)=>qO fill (n - i).toNat).map V.str:=by rw[List.map_map];rfl
    rw[e]
    exact⟨p3,_,rfl,.inl ⟨SqL.of au,fun l hl=>fin _ p3 _ _ (Same.refl H) hp3 rfl (pA _ (fun i j hi hj h=>by
     have h:=congrArg (fun z:Str=>z.cps.toList.length) h;simp only[pq,List.length_replicate]at h
     omega) (fun i hi=>⟨by rw[pq,List.length_replicate];omega,by rw[pq,List.length_replicate];omega,fun x hx=>by
     rw[pq]at hx
     rw[(List.mem_replicate.mp hx).2];exact hff⟩)) l hl⟩⟩
 case a2 =>
  refine⟨_,rfl,_,_,rfl,rfl,⟨by decide,by decide⟩,_,_,rfl,rfl,(by show(0:Int)<7;decide),_,_,rfl,rfl,?_⟩
  try dsimp -proj -iota only
  obtain⟨size,hse,hs1,hs7⟩:∃ size:Int,1+c / 130 % 7=size/\1<=size/\size<=7:=⟨_,rfl,by omega,by omega⟩
  rw[hse];refine⟨_,rfl,_,_,rfl,rfl,⟨by decide,by decide⟩,_,rfl,_,_,rfl,rfl,_,_,rfl,rfl,(by show(0:Int)<size+1;omega),?_⟩
  try dsimp -proj -iota only
  have hp0:=qen (c / 910) (show size+1≠0 by omega);have hp1:=qel (c / 910) (show 0<size+1 by omega);generalize c / 910 % (size+1)=place at hp0 hp1 ⊢;refine⟨rfl,_,rfl,size,rfl,by omega,by omega,?_⟩;refine c7 (n:=size.toNat) (fun(i:Nat)=>.str ⟨#[97+((c / 6370+3 * (i:Int)) % 26).toNat]⟩) (lk (by omega)) (fun i R hi r=>?_) (fun p1 hp1'=>?_)
  . refine⟨⟨rfl,rfl,trivial⟩,?_⟩
    refine⟨_,rfl,_,rfl,_,_,rfl,rfl,⟨by decide,by decide⟩,_,rfl,_,_,rfl,rfl,.inl ⟨by decide,by decide⟩,_,_,rfl,rfl,_,_,rfl,rfl,(by show(0:Int)<26;decide),_,_,_,rfl,rfl,lts,jT (by omega) (by omega),?_⟩;have e:97+((c / 6370+3 * (0+(i:Int))) % 26).toNat=97+((c / 6370+3 * (i:Int)) % 26).toNat:=by rw[Int.zero_add]
    rw[e];exact r
  have hsum:(((List.range size.toNat).map fun(i:Nat)=>(⟨#[97+((c / 6370+3 * (i:Int)) % 26).toNat]⟩:Str)).map (·.length)).sum+((List.range size.toNat).map fun(i:Nat)=>(⟨#[97+((c / 6370+3 * (i:Int)) % 26).toNat]⟩:Str)).length * ("":Str).length <= 16777216:=by
   rw[Kq (fun(i:Nat)=>97+((c / 6370+3 * (i:Int)) % 26).toNat) size.toNat]
   try simp only[qlm,List.length_range]
   have e:("":Str).length=0:=by decide +kernel
   rw[e];omega
  refine⟨_,p1,(List.range size.toNat).map fun(i:Nat)=>⟨#[97+((c / 6370+3 * (i:Int)) % 26).toNat]⟩,rfl,rfl,SqL.of (by rw[au,List.map_map];rfl),hsum,?_⟩
  have hstem:(Txt.join ("":Str) ((List.range size.toNat).map fun(i:Nat)=>(⟨#[97+((c / 6370+3 * (i:Int)) % 26).toNat]⟩:Str))).cps.toList=(List.range size.toNat).map fun(i:Nat)=>97+((c / 6370+3 * (i:Int)) % 26).toNat:=by
   rw[DR,Ml,List.flatMap_map];exact wU (fun(i:Nat)=>97+((c / 6370+3 * (i:Int)) % 26).toNat) _
  generalize Txt.join ("":Str) ((List.range size.toNat).map fun(i:Nat)=>(⟨#[97+((c / 6370+3 * (i:Int)) % 26).toNat]⟩:Str))=stem at hstem ⊢;have hsl:stem.cps.toList.length=size.toNat:=by rw[hstem,qlm,List.length_range]
  have hso:∀ x∈stem.cps.toList,97<=x/\x<=122:=fun x hx=>by
   rw[hstem]at hx;obtain⟨i,_,rfl⟩:=List.mem_map.mp hx;omega
  have hln:stem.length<=sizeLine:=lk (by rw[jz,hsl];omega);have s1:=aD (o:=.lst ((List.range size.toNat).map fun(i:Nat)=>V.str ⟨#[97+((c / 6370+3 * (i:Int)) % 26).toNat]⟩)) hp1';generalize upd H p1 (.lst ((List.range size.toNat).map fun(i:Nat)=>V.str ⟨#[97+((c / 6370+3 * (i:Int)) % 26).toNat]⟩))=H1 at s1 ⊢
  have cl:∀ lo hi,(dC stem lo hi).length <= 8:=fun lo hi=>by
   rw[jz,fD,List.length_take,List.length_drop,hsl];omega
  refine⟨_,rfl,n,rfl,by omega,by omega,?_⟩;refine c7 (n:=n.toNat) (fun i=>.str (nmE stem place first i)) (lk (by omega)) (fun i R hi r=>?_) (fun p3 hp3=>?_)
  . refine⟨⟨rfl,rfl,rfl,rfl,trivial⟩,?_⟩
    refine⟨_,rfl,_,rfl,_,rfl,stem,rfl,hln,_,rfl,_,rfl,_,rfl,_,_,rfl,rfl,.inl ⟨by decide,by decide⟩,_,_,rfl,rfl,_,_,rfl,rfl,(by show(0:Int)<26;decide),_,_,_,rfl,rfl,lts,jT (by omega) (by omega),_,_,rfl,rfl,lk (by rw[uc];have:=cl none (some place);omega),_,rfl,_,rfl,_,rfl,stem,rfl,hln,_,_,rfl,rfl,lk (by rw[Str.length_append,uc];have:=cl none (some place);have:=cl (some place) none;omega),?_⟩
    have e:dC stem none (some place)++(⟨#[97+((first+5 * (0+(i:Int))) % 26).toNat]⟩:Str)++dC stem (some place) none=nmE stem place first i:=by
     unfold nmE sgC;rw[Int.zero_add]
    rw[<- e]at r;exact r
  . have e:((List.range n.toNat).map fun i=>V.str (nmE stem place first i))=((List.range n.toNat).map (nmE stem place first)).map V.str:=by rw[List.map_map];rfl
    rw[e]
    exact⟨p3,_,rfl,.inl ⟨SqL.of au,fun l hl=>fin _ p3 _ _ s1 hp3 rfl (pA _ (fun i j hi hj h=>by
     have h:=congrArg (fun z:Str=>z.cps.toList) h;simp only[vO hp0]at h;rw[List.append_assoc,List.append_assoc]at h;have h:=List.append_cancel_left h;simp only[List.singleton_append,List.cons.injEq]at h
     exact yP (by omega) (by omega) h.1) (fun i _=>⟨by
     rw[vO hp0];simp only[List.length_append,List.length_take,List.length_drop,List.length_singleton];omega,by
     rw[vO hp0];simp only[List.length_append,List.length_take,List.length_drop,List.length_singleton];omega,fun x hx=>by
     rw[vO hp0]at hx;rcases List.mem_append.mp hx with hx|hx
     . rcases List.mem_append.mp hx with hx|hx
       . exact hso x (List.mem_of_mem_take hx)
       . rw[List.mem_singleton.mp hx];exact DW first i
     . exact hso x (List.mem_of_mem_drop hx)⟩)) l hl⟩⟩
theorem Pq(b:Bool):∃ n:Int,atI [V.int 8,V.int 4] (if b=true then 1 else 0)=some (.int n)/\0<n/\n<=8:=by
 cases b with
 |false=>exact⟨8,rfl,by decide,by decide⟩
 |true=>exact⟨4,rfl,by decide,by decide⟩
inductive spToldN(K:W.Frag)(vs:List V)(H:Hp)(Q:VK)(E:XK):Prop
 |mk (a:Addr) (cs:List Int) (_:vs=[.ref a]) (_:SqL K H a (cs.map V.int)) (_:∀(np:Addr)(ns:List Str)(H':Hp),Same H H'->H' np=some (.tup (ns.map V.str))->1<=ns.length->ns.length<=8->Names ns->Q (.ref np) H')
theorem scToldN:FnScope ["_law_script","_law_first"] ["_law_script"] (aB GQ):=mkS
theorem Ht(T:Txt P w K mg t):FO P w K mg base 2 t.a102 t.d102 ["_law_script"] (spToldN K):=by
 have G91:=yK (base:=base) T;have G94:=DX (base:=base) T;refine T.q102.F.ok2 scToldN (fun cdv A outer s H vs Q E hr h=>?_);obtain⟨a,cs,rfl,hS,k⟩:=h;have nd:=scToldN.nd
 refine⟨_,(ao (psl 1 nd (aQ G91 (hr.mo) T.q91.m T.q91.k T.q91.b aJ (aa (pvl 0) (aa ak aj))))
   (aq (aA (aQ G94 (hr.mo) T.q94.m T.q94.k T.q94.b aJ (aa (pvl 1) (aa (aG eU ak (aG bU (aG iz (pvl 1) ak) (pix cg (bF (aa ak (aa ak aj))) (dh Cu T.zL Bt.int (aa (cF lC (aZ aX T.zd Bt.len (aa (pvl 0) aj)) ak (aN _)) aj))))) aj)))))),?_⟩
 refine⟨_,rfl,a,cs,0,rfl,hS,by decide,?_⟩
 try dsimp -proj -iota only
 generalize cs.getD (0:Int).toNat 0=first
 obtain⟨n8,hat,hn0,hn8⟩:=Pq (decide ((20:Int)<((cs.map V.int).length:Nat)));have hm0:=qen (first / 3) (show n8≠0 by omega);have hm1:=qel (first / 3) hn0;refine⟨_,rfl,_,rfl,_,_,rfl,rfl,⟨by decide,by decide⟩,lk (by first|exact qnb rfl|simp),fun q0 hq0=>?_⟩;have s0:=aD (o:=.lst [.int 8,.int 4]) hq0;refine⟨_,rfl,a,_,rfl,.inl (s0.seq hS),_,_,rfl,rfl,.inr ⟨_,rfl,q0,_,_,.int n8,rfl,rfl,SqL.of au,hat,_,_,rfl,rfl,hn0,_,_,rfl,rfl,first,1+first / 3 % n8,rfl,by omega,by omega,fun np ns H1 s1 hnp hnl hN=>?_⟩⟩;exact k np ns H1 (s0.trans s1) hnp (by omega) (by omega) hN
inductive spIsMindN(vs:List V)(H:Hp)(Q:VK)(E:XK):Prop
 |mk (a np p r:Addr) (ns:List Str) (rs:List Int) (_:vs=[.ref a,.ref p]) (_:MindAt H a np r rs) (_:H np=some (.tup (ns.map V.str))) (_:H p=some (.tup (ns.map V.str))) (_:ns.length<=8) (_:Mind ns rs) (_:Q (.bl true) H)
theorem scIsMindN:FnScope ["_law_found","_law_names","_law_rank"] ["_law_found","_law_names"] (aB S98):=mkS
theorem Bo(T:Txt P w K mg t):FO P w K mg base 2 t.a98 t.d98 ["_law_found","_law_names"] spIsMindN:=by
 have G92:=Hq (base:=base) T;refine T.q98.F.ok2 scIsMindN (fun cdv A outer s H vs Q E hr h=>?_);obtain⟨a,np,p,r,ns,rs,rfl,⟨ha,hr',h256⟩,hnp,hp,h8,hM,k⟩:=h;have nd:=scIsMindN.nd;have hu:=gF hr
 refine ⟨_,(ao (aV (PW.pt (gm (cQ (bZ (aZ fW T.zq Bt.isinstance (aa (pvl 0) (aa (jR (v:=.ty "tuple") T.zn Bt.tuple rfl) aj))))) (gm (aH gn (aZ aX T.zd Bt.len (aa (pvl 0) aj)) ak (aN _)) (gm (cQ (bZ (aZ fW T.zq Bt.isinstance (aa (pix aK (pvl 0) ak) (aa (jR (v:=.ty "tuple") T.zn Bt.tuple rfl) aj))))) (gP (aH (yG (Nat.lt_of_succ_lt hu)) (pix aK (pvl 0) ak) (pvl 1) (aN _)))))))
    (aq (aA eQ))
    aP)
   (ao (aV (PW.pt (gm (cQ (bZ (aZ fW T.zq Bt.isinstance (aa (pix aK (pvl 0) ak) (aa (jR (v:=.ty "tuple") T.zn Bt.tuple rfl) aj))))) (gP (aH gn (aZ aX T.zd Bt.len (aa (pix aK (pvl 0) ak) aj)) (aG eV ak (aZ aX T.zd Bt.len (aa (pvl 1) aj))) (aN _)))))
    (aq (aA eQ))
    aP)
   (ao (dU own1 rfl (Lj (pix aK (pvl 0) ak)) (pgl 2 nd)
    (aq (aV (PW.pt (gm (cQ (bZ (aQ G92 (hr.mo) T.q92.m T.q92.k T.q92.b aJ (aa (pvl 2) aj)))) (gP (aH lB (pvl 2) ak (aN _)))))
     (aq (aA eQ))
     aP)))
   (aq (aA (cF aW (aZ (Dp rfl) T.zA Bt.min (aa (pix aK (pvl 0) ak) aj)) ak (aN _))))))),?_⟩
 have el:(ns.map V.str).length=ns.length:=qlm _;have c1:lU 1 (((ns.map V.str).length:Nat):Int):=⟨by omega,by rw[el];omega,by decide⟩
 have e1:(1:Int) * 2 ^ (((ns.map V.str).length:Nat):Int).toNat=((rs.length:Nat):Int):=by rw[el,pw1,hM.len]
 refine⟨_,rfl,_,_,_,_,true,rfl,rfl,.tup ha,rfl,_,rfl,bz ?_⟩;refine⟨_,rfl,a,_,rfl,.inr (SqT.of ha),rfl,_,rfl,aU (fun c=>absurd c (by rw[qdt (show V.int (([V.ref np,V.ref r].length:Nat):Int)=V.int 2 from rfl)];decide)) (fun _=>?_)⟩;refine⟨_,rfl,a,_,0,_,rfl,rfl,SqT.of ha,rfl,_,_,_,_,true,rfl,rfl,.tup hnp,rfl,_,rfl,bz ?_⟩;refine⟨_,rfl,a,_,0,_,rfl,rfl,SqT.of ha,rfl,_,rfl,np,p,ns,ns,rfl,rfl,SqT.of hnp,SqT.of hp,_,rfl,?_⟩;rw[qdt (rfl:ns=ns)];refine bz ?_;refine⟨_,rfl,a,_,1,_,rfl,rfl,SqT.of ha,rfl,_,_,_,_,true,rfl,rfl,.tup hr',rfl,_,rfl,bz ?_⟩;refine⟨_,rfl,a,_,1,_,rfl,rfl,SqT.of ha,rfl,r,_,rfl,.inr (SqT.of hr'),_,rfl,p,_,rfl,.inr (SqT.of hp),_,_,rfl,rfl,c1,?_⟩
 try dsimp -proj -iota only
 rw[e1,qlm];refine⟨rfl,_,rfl,aU (fun c=>absurd c (by rw[qdt rfl];decide)) (fun _=>?_)⟩;refine⟨_,rfl,a,_,1,_,rfl,rfl,SqT.of ha,rfl,r,rfl,⟨_,SqT.of hr'⟩,JP (K:=K) (a:=r) (xs:=rs.map V.int) (fun i σ H2=>∃(o:Option V),σ=[some (.ref a),some (.ref p),o]/\H2=H) ⟨none,rfl,rfl⟩ (fun i σ H2 _ ⟨_,_,e⟩=>by subst e;exact SqT.of hr') ?_ ?_⟩
 . rintro i y σ H2 hi ⟨o,rfl,rfl⟩
   rw[qgm]at hi
   obtain⟨x,hx,rfl⟩:∃ x,rs[i]? = some x/\y=V.int x:=by
    cases e:rs[i]? with
    |none=>rw[e]at hi;cases hi
    |some x=>rw[e]at hi;exact⟨x,rfl,(qsi hi).symm⟩
   have h0:=hM.ge x (qmg hx);refine⟨_,rfl,x,rfl,_,rfl,bz ?_⟩;exact⟨_,rfl,_,_,rfl,rfl,_,rfl,aU (fun c=>absurd (qod c) (by omega)) (fun _=>⟨_,rfl,rfl⟩)⟩
 . rintro σ H2 ⟨o,rfl,rfl⟩
   refine⟨_,rfl,a,_,1,_,rfl,rfl,SqT.of ha,rfl,r,rs,rfl,SqT.of hr',List.length_pos_of_mem hM.zero,fun M h1 h2=>⟨rfl,?_⟩⟩;have e:M=0:=Int.le_antisymm (h2 0 hM.zero) (hM.ge M h1);subst e;exact k
def Bnd(B:Int)(rs:List Int):Prop:=∀ z∈rs,z<=B
theorem yQ{l D:Int}(h0:0<=D)(h:l<=D):cT l<=D:=by
 unfold cT
 split
 . exact h0
 . exact h
theorem Mx{rs:List Int}{z:Int}(h:z∈rs):∃ i,i<rs.length/\rs.getD i 0=z:=by
 obtain⟨i,hi,e⟩:=List.getElem_of_mem h;exact⟨i,hi,by rw[List.getD,List.getElem?_eq_getElem hi];exact e⟩
theorem My{rs:List Int}{i:Nat}(h:i<rs.length):rs.getD i 0∈rs:=by
 rw[List.getD,List.getElem?_eq_getElem h];exact List.getElem_mem h
theorem qP{rs:List Int}{bk:Nat}{x y lean B D:Int}(hx:0<=x)(hy:0<=y)(h0:0<=D)(h1:lean<=D)(h2 : -lean<=D)(hb:Bnd B rs):Bnd (B+D) (eZ rs bk x y lean):=fun z hz=>by
 obtain⟨i,hi,rfl⟩:=Mx hz;rw[jH]at hi;rw[ir hi];have a1:=hb _ (My hi);have p1:=yQ h0 h1;have p2:=yQ h0 h2
 split <;> omega
theorem gC{ns:List Str}{rs:List Int}(h:Mind ns rs){sd:Nat}{x:Int}(hx:aO (sel rs sd)=some x):0<=x:=h.ge x (gK (bh hx).1)
theorem Bnd.more{B B':Int}{rs:List Int}(h:Bnd B rs)(hb:B<=B'):Bnd B' rs:=fun z hz=>Int.le_trans (h z hz) hb
theorem Hu{ns:List Str}{tr:Tr}{rs:List Int}{B D:Int}(hM:Mind ns rs)(h0:0<=D)(hb:Bnd B rs):Bnd (B+D) (dg ns tr rs):=by
 unfold dg
 split
 . rename_i x y hx hy
   split
   . exact qP (gC hM hx) (gC hM hy) h0 h0 (by omega) hb
   . exact hb.more (by omega)
 . exact hb.more (by omega)
theorem Hv{ns:List Str}{tr:Tr}{rs:List Int}{firm B D:Int}(hM:Mind ns rs)(h0:0<=D)(h1:firm<=D)(h2 : -firm<=D)(hb:Bnd B rs):Bnd (B+D) (gY ns tr rs firm):=by
 unfold gY
 split
 . rename_i x y hx hy
   exact qP (gC hM hx) (gC hM hy) h0 h1 h2 hb
 . exact hb.more (by omega)
theorem Js{G:L2.St->Hp->Prop}{B:Prop}(S:L2.St->Hp->Prop)(h:(∀ σ H',S σ H'->G σ H')->B)(g:∀ σ H',S σ H'->G σ H'):B:=h g
def cD(x:Str):Prop:=x="&"\/x="|"\/x=">"\/x="="
def dN(x:Str):Int:=if x="&" then 4 else if x="|" then 3 else if x=">" then 2 else 1
def fM(e l:Str):Bool:=if e="(" then false else if e="~" then true else if e=l then !decide (l=">")else decide (dN l<dN e)
abbrev bdL:List (Key×V):=[(.inr "&",.int 4),(.inr "|",.int 3),(.inr ">",.int 2),(.inr "=",.int 1)]
abbrev kdL:List (Key×V):=[(.inr "&",.str "and"),(.inr "|",.str "or"),(.inr ">",.str "then"),(.inr "=",.str "same")]
theorem Bp{x:Str}(h:cD x):bY bdL (.inr x)=some (.int (dN x)):=by
 rcases h with rfl|rfl|rfl|rfl <;> decide +kernel
theorem Og{x:Str}(h:¬ cD x):bY bdL (.inr x)=none:=by
 have h1:¬ x="&":=fun z=>h (.inl z)
 have h2:¬ x="|":=fun z=>h (.inr (.inl z))
 have h3:¬ x=">":=fun z=>h (.inr (.inr (.inl z)))
 have h4:¬ x="=":=fun z=>h (.inr (.inr (.inr z)))
 simp[bY,List.find?,Ne.symm h1,Ne.symm h2,Ne.symm h3,Ne.symm h4,fun z=>h1 (Eq.symm z),fun z=>h2 (Eq.symm z),fun z=>h3 (Eq.symm z),fun z=>h4 (Eq.symm z)]
inductive spTakes(vs:List V)(H:Hp)(Q:VK)(E:XK):Prop
 |mk (e l) (_:vs=[.str e,.str l]) (_:(e="("\/e="~"\/cD e)) (_:cD l) (_:Q (.bl (fM e l)) H)
theorem scTakes:FnScope ["earlier","later"] ["earlier","later"] (aB S47):=mkS
theorem Hw(T:Txt P w K mg t):FO P w K mg base 1 t.a47 t.d47 ["earlier","later"] spTakes:=by
 refine T.q47.F.ok2 scTakes (fun cdv A outer s H vs Q E hr h=>?_);obtain⟨e,l,rfl,he,hl,k⟩:=h;have nd:=scTakes.nd;have hu:=gF hr
 refine⟨_,(ao (aV (aH aW (pvl 0) az (aN _))
    (aq (aA eQ))
    aP)
   (ao (aV (aH aW (pvl 0) az (aN _))
    (aq (aA eQ))
    aP)
   (ao (aV (aH aW (pvl 0) (pvl 1) (aN _))
    (aq (aA (cF gn (pvl 1) az (aN _))))
    aP)
   (aq (aA (cF lC (jh T.zt hu (fG (v:=.ref t.zt) T.zJ rfl) (pvl 0) (fun _ _=>rfl)) (jh T.zt hu (fG (v:=.ref t.zt) T.zJ rfl) (pvl 1) (fun _ _=>rfl)) (aN _))))))),?_⟩
 unfold fM at k;refine⟨_,rfl,rfl,_,rfl,?_⟩;refine aU (fun e1=>?_) (fun e1=>?_)
 . have e1:e="(":=V.str.inj (qod e1)
   rw[qp e1]at k;exact k
 have e1:¬ e="(":=fun z=>e1 (qdt (congrArg V.str z))
 rw[qnZ e1]at k;refine⟨_,rfl,rfl,_,rfl,?_⟩;refine aU (fun e2=>?_) (fun e2=>?_)
 . have e2:e="~":=V.str.inj (qod e2)
   rw[qp e2]at k;exact k
 have e2:¬ e="~":=fun z=>e2 (qdt (congrArg V.str z))
 rw[qnZ e2]at k;have he:cD e:=by rcases he with z|z|z;exact absurd z e1;exact absurd z e2;exact z
 refine⟨_,rfl,_,rfl,rfl,_,rfl,?_⟩;refine aU (fun e3=>?_) (fun e3=>?_)
 . have e3:e=l:=V.str.inj (qod e3)
   rw[qp e3]at k;refine⟨_,rfl,rfl,?_⟩
   have q:(!decide (V.str l=V.str (Str.ofString ">"))) = !decide (l=">"):=by
    by_cases z:l=">"
    . simp[z]
    . simp[z]
   rw[q];exact k
 have e3:¬ e=l:=fun z=>e3 (qdt (congrArg V.str z))
 rw[qnZ e3]at k;refine⟨_,rfl,.inr e,_,rfl,rfl,Bp he,_,rfl,.inr l,_,rfl,rfl,Bp hl,_,_,rfl,rfl,?_⟩;exact k
def cV(c:Nat):Bool:=decide (97<=c) && decide (c<=122)
def isName(x:Str):Bool:=(decide (1<=(x.length:Int)) && decide ((x.length:Int)<=8)) && x.cps.toList.all cV
def Small(x:Str):Prop:=x.length<=1000/\∀ c∈x.cps.toList,c<16 ^ 8
inductive spLetter(vs:List V)(H:Hp)(Q:VK)(E:XK):Prop
 |mk (c) (_:vs=[.str ⟨#[c]⟩]) (_:Q (.bl (cV c)) H)
inductive spIsName(vs:List V)(H:Hp)(Q:VK)(E:XK):Prop
 |mk (x) (_:vs=[.str x]) (_:x.length<=sizeLine) (_:∀ H',(∀ b o,H b=some o->H' b=some o)->Q (.bl (isName x)) H')
theorem sr(a b:Nat):decide (([a]:List Nat) < [b])=decide (a<b):=by
 have e:(([a]:List Nat) < [b])↔a<b:=by simp[List.cons_lt_cons_iff]
 simp[e]
theorem Pr(c:Nat):(!decide ((⟨#[c]⟩:Str).cps.toList<(Str.ofString "a").cps.toList))=decide (97<=c):=by
 show(!decide ([c] < [97]))=_;rw[sr]
 by_cases h:97<=c
 . simp[h]
 . simp[h];omega
theorem Pu(c:Nat):(!decide ((Str.ofString "z").cps.toList<(⟨#[c]⟩:Str).cps.toList))=decide (c<=122):=by
 show(!decide ([122] < [c]))=_;rw[sr]
 by_cases h:c<=122
 . simp[h]
 . simp[h];omega
theorem scLetter:FnScope ["sign"] ["sign"] (aB S0):=mkS
theorem uW(T:Txt P w K mg t):FO P w K mg base 1 t.a0 t.d0 ["sign"] spLetter:=by
 refine T.q0.F.ok2 scLetter (fun cdv A outer s H vs Q E hr h=>?_);obtain⟨c,rfl,k⟩:=h;have nd:=scLetter.nd;refine⟨_,(aq (aA (qz lF lF az (pvl 0) az))),?_⟩;refine⟨_,rfl,_,_,rfl,rfl,?_⟩;rw[Pr];refine⟨_,rfl,?_⟩
 by_cases h1:97<=c
 . rw[qp (qdt h1)]
   refine⟨_,_,rfl,rfl,?_⟩;rw[Pu];have e:cV c=decide (c<=122):=by simp[cV,h1]
   rw[<- e];exact k
 . rw[qnZ (by simpa using h1)]
   have e:cV c=false:=by simp[cV,h1]
   rw[e]at k;exact k
theorem scIsName:FnScope ["text"] ["text"] (aB S1):=mkS
theorem pB(T:Txt P w K mg t):FO P w K mg base 2 t.a1 t.d1 ["text"] spIsName:=by
 refine T.q1.F.ok2 scIsName (fun cdv A outer s H vs Q E hr h=>?_);obtain⟨x,rfl,hx,k⟩:=h;have nd:=scIsName.nd;have G0:=uW (base:=base) T;refine⟨_,(aq (aA (ou (qz pO pO ak (aZ iR T.zd Bt.len (aa (pvl 0) aj)) (fG (v:=.int 8) T.zaw ⟨_,rfl⟩)) (my (aZ (lE rfl) T.zF Bt.all (aa (cj rfl ["sign"] [none] (wF (pvl 0)) (by kernel_rfl) (fun _ _ _ _ _ _=>(pgl 0 (ndS (l:=["sign"])))) (fun _ _ _ _ _ _=>cN) (fun _ _ _ _ _ _=>(aQ G0 (hr.mo) T.q0.m T.q0.k T.q0.b aJ (aa (pvl 0) aj)))) aj)))))),?_⟩;refine⟨_,rfl,_,rfl,hx,_,_,rfl,rfl,_,rfl,?_⟩;have fin:isName x=false->Q (.bl false) H:=fun e=>by have:=k H (fun _ _ z=>z);rw[e]at this;exact this
 refine aU (fun e1=>?_) (fun e1=>⟨_,rfl,fin (by simp at e1;simp[isName];omega)⟩);have e1:=qod e1;refine⟨_,_,rfl,rfl,_,rfl,?_⟩;refine aU (fun e2=>?_) (fun e2=>fin (by simp at e2;simp[isName];omega));have e2:=qod e2;refine⟨_,rfl,x,rfl,oJ (fun c=>.bl (cV c)) hx (fun c R _ hR=>⟨True.intro,_,rfl,c,rfl,hR⟩) fun p hp=>?_⟩;refine⟨p,x.cps.toList.map cV,rfl,?_,?_⟩
 . refine SqL.of ?_
   rw[au,List.map_map];rfl
 . have:=k (upd H p (.lst (x.cps.toList.map fun c=>V.bl (cV c)))) (fun b o q=>by rw[aF (fun z=>by rw[z,hp]at q;cases q)];exact q)
   have e:isName x=(x.cps.toList.map cV).all id:=by simp[isName,e1,e2]
   rw[e]at this;exact this
inductive spWLeaf(t:Adr)(vs:List V)(H:Hp)(Q:VK)(E:XK):Prop
 |mk (x) (_:vs=[.str x]) (_:Small x) (_:((x="1"/\∀ p,H p=none->Q (.ref p) (upd H p (.tup [.str "yes"])))\/(x="0"/\∀ p,H p=none->Q (.ref p) (upd H p (.tup [.str "no"])))\/(¬ x="1"/\¬ x="0"/\∀ H',(∀ b o,H b=some o->H' b=some o)->if isName x=true then ∀ p,H' p=none->Q (.ref p) (upd H' p (.tup [.str "name",.str x]))else E (.ref t.zj) none H')))
theorem scWLeaf:FnScope ["word"] ["word"] (aB S46):=mkS
theorem Hx(T:Txt P w K mg t):FO P w K mg base 3 t.a46 t.d46 ["word"] (spWLeaf t):=by
 refine T.q46.F.ok2 scWLeaf (fun cdv A outer s H vs Q E hr h=>?_);obtain⟨x,rfl,hx,k⟩:=h;have nd:=scWLeaf.nd;have G1:=pB (base:=base) T
 refine⟨_,(ao (aV (aH aW (pvl 0) az (aN _))
    (aq (aA (bw (aa az aj))))
    aP)
   (ao (aV (aH aW (pvl 0) az (aN _))
    (aq (aA (bw (aa az aj))))
    aP)
   (ao (aV (cQ (bZ (aQ G1 (hr.mo) T.q1.m T.q1.k T.q1.b aJ (aa (pvl 0) aj))))
    (aq (dF eO rfl T.zu T.zy (aa (wH az (tO (pvl 0))) aj)))
    aP)
   (aq (aA (bw (aa az (aa (pvl 0) aj)))))))),?_⟩
 refine⟨_,rfl,rfl,_,rfl,?_⟩;refine aU (fun e=>?_) (fun e=>?_)
 . have e:x="1":=V.str.inj (qod e)
   rcases k with⟨_,k⟩|⟨e',_⟩|⟨e',_⟩
   . exact⟨(by show 1<=sizeLine;decide),fun p hp=>k p hp⟩
   . rw[e]at e';exact absurd e' (by decide +kernel)
   . exact absurd e e'
 have e1:¬ x="1":=fun z=>e (qdt (congrArg V.str z))
 refine⟨_,rfl,rfl,_,rfl,?_⟩;refine aU (fun e=>?_) (fun e=>?_)
 . have e:x="0":=V.str.inj (qod e)
   rcases k with⟨e',_⟩|⟨_,k⟩|⟨_,e',_⟩
   . exact absurd e' e1
   . exact⟨(by show 1<=sizeLine;decide),fun p hp=>k p hp⟩
   . exact absurd e e'
 have e0:¬ x="0":=fun z=>e (qdt (congrArg V.str z))
 have k:∀ H',(∀ b o,H b=some o->H' b=some o)->if isName x=true then ∀ p,H' p=none->Q (.ref p) (upd H' p (.tup [.str "name",.str x]))else E (.ref t.zj) none H':=by
  rcases k with⟨e',_⟩|⟨e',_⟩|⟨_,_,k⟩
  . exact absurd e' e1
  . exact absurd e' e0
  . exact k
 refine⟨_,rfl,x,rfl,qnt hx.1 (by decide),fun H' s'=>?_⟩;have k':=k H' s';refine⟨_,rfl,?_⟩;cases hn:isName x with
 | true =>
  rw[hn,qp rfl]at k';exact⟨_,rfl,(by show 2<=sizeLine;decide),fun p hp=>k' p hp⟩
 | false =>
  rw[hn,qnZ (by decide)]at k';rw[qp (show(!false)=true from rfl)];refine⟨_,rfl,(by decide +kernel),_,rfl,x,rfl,repr_fits hx.2 hx.1,_,rfl,?_,(by show 1<=sizeLine;decide),k'⟩;have e1:=PySem.StrLaws.reprText_len x hx.2;have e2:=hx.1;rw[strLen_append];have e3:(Str.ofString "no part of a sentence begins with ").length=34:=by decide +kernel
  rw[e3];unfold sizeLine;omega
def dw(st:List Str×Str)(c:Nat):List Str×Str :=
 if cV c=true then(st.1,st.2++⟨#[c]⟩)else
  (if c=32 then(if st.2="" then st.1 else st.1++[st.2])else(if st.2="" then st.1 else st.1++[st.2])++[⟨#[c]⟩],"")
def fJ(l:List Nat):List Str×Str:=l.foldl dw ([],"")
theorem jU(l:List Nat)(c:Nat):fJ (l++[c])=dw (fJ l) c:=by simp[fJ]
def jK(x:Str):List Str:=(fJ (x.cps.toList++[32])).1
theorem DY{st:List Str×Str}{c n:Nat}(h1:st.1.length<=2 * n)(h2:st.2.length<=n):(dw st c).1.length<=2 * (n+1)/\(dw st c).2.length<=n+1:=by
 unfold dw;have e0:(Str.ofString "").length=0:=rfl
 split
 . refine⟨by show st.1.length<=_;omega,?_⟩
   show(st.2++⟨#[c]⟩:Str).length <= _;rw[strLen_append];have:(⟨#[c]⟩:Str).length=1:=rfl;omega
 . refine⟨?_,?_⟩
   . show(if c=32 then _ else _:List Str).length <= _
     split <;> split <;> first|omega | (simp only[List.length_append,List.length_cons,List.length_nil];omega)
   . show(Str.ofString "").length <= _
     rw[e0];exact qnz _
theorem lJ:∀(k:Nat)(l:List Nat),l.length=k->(fJ l).1.length<=2 * l.length/\(fJ l).2.length<=l.length
 | 0,l,h=>by
  have:l=[]:=List.length_eq_zero_iff.mp h;subst this;exact⟨qnr _,qnr _⟩
 | k+1,l,h=>by
  have hne:l≠[]:=fun z=>by rw[z]at h;cases h
  obtain⟨l',c,rfl⟩:∃ l' c,l=l'++[c]:=⟨l.dropLast,l.getLast hne,(List.dropLast_concat_getLast hne).symm⟩
  rw[jU];have hk:l'.length=k:=by simpa using h
  obtain⟨h1,h2⟩:=lJ k l' hk;have:=DY (c:=c) h1 h2
  simpa using this
inductive spWords(vs:List V)(H:Hp)(Q:VK)(E:XK):Prop
 |mk (x) (_:vs=[.str x]) (_:x.length<=1000) (_:∀ p,H p=none->Q (.ref p) (upd H p (.lst ((jK x).map V.str))))
theorem scWords:FnScope ["text","words","name","sign"] ["text"] (aB S45):=mkS
theorem Hy(T:Txt P w K mg t):FO P w K mg base 2 t.a45 t.d45 ["text"] spWords:=by
 refine T.q45.F.ok2 scWords (fun cdv A outer s H vs Q E hr h=>?_);obtain⟨x,rfl,hx,k⟩:=h;have nd:=scWords.nd;have G0:=uW (base:=base) T
 refine ⟨_,(ao (psl 1 nd (bF aj))
   (ao (psl 2 nd az)
   (ao (dU own1 rfl (wF (aG bj (pvl 0) az)) (pgl 3 nd)
    (ao (aV (bZ (aQ G0 (hr.mo) T.q0.m T.q0.k T.q0.b aJ (aa (pvl 3) aj)))
     (ao (pal 2 nd (pvl 3) xR)
     (aq xQ))
     aP)
    (ao (aV (aH gn (pvl 2) az (aN _))
     (ao (bA (bW PySem.F.plainAttrs_list PySem.F.slot_list_append PySem.F.type_list_append cM (pvl 1) (aa (pvl 2) aj)))
     (aq (psl 2 nd az)))
     aP)
    (aq (aV (aH gn (pvl 3) az (aN _))
     (aq (bA (bW PySem.F.plainAttrs_list PySem.F.slot_list_append PySem.F.type_list_append cM (pvl 1) (aa (pvl 3) aj))))
     aP)))))
   (aq (aA (pvl 1)))))),?_⟩
 have hl:x.length+(Str.ofString " ").length <= sizeLine:=by
  have:(Str.ofString " ").length=1:=rfl;unfold sizeLine;omega
 refine⟨qnz _,fun p hp=>?_⟩
 refine⟨_,rfl,_,_,rfl,rfl,hl,_,rfl,J7 (x:=x++Str.ofString " ") (fun i σ H2=>∃ sg,σ=[some (.str x),some (.ref p),some (.str (fJ ((x++Str.ofString " ").cps.toList.take i)).2),sg]/\H2=upd H p (.lst ((fJ ((x++Str.ofString " ").cps.toList.take i)).1.map V.str)))
  ⟨none,rfl,rfl⟩ ?_ ?_⟩
 . rintro i c σ H2 hi ⟨sg,rfl,rfl⟩
   have hi':(x++Str.ofString " ").cps.toList[i]? = some c:=by simpa using hi
   have e1:fJ ((x++Str.ofString " ").cps.toList.take (i+1))=dw (fJ ((x++Str.ofString " ").cps.toList.take i)) c:=by
    rw[qta,hi'];exact jU _ _
   have hb:=lJ _ ((x++Str.ofString " ").cps.toList.take i) rfl
   have hn:((x++Str.ofString " ").cps.toList.take i).length <= 1001:=by
    have q1:(x++Str.ofString " ").length=x.length+1:=strLen_append _ _;have q2:(x++Str.ofString " ").cps.toList.length=(x++Str.ofString " ").length:=by simp[Str.length]
    rw[List.length_take];omega
   rw[e1];generalize fJ ((x++Str.ofString " ").cps.toList.take i)=st at hb ⊢;obtain⟨ws,nm⟩:=st;obtain⟨hb1,hb2⟩:=hb;dsimp only at hb1 hb2 ⊢;refine⟨_,rfl,c,rfl,_,rfl,?_⟩;unfold dw;cases hL:cV c with
   | true =>
    rw[qp rfl];refine⟨_,rfl,_,rfl,_,_,rfl,rfl,?_,⟨_,rfl,rfl⟩⟩;have:(⟨#[c]⟩:Str).length=1:=rfl;unfold sizeLine;omega
   | false =>
    rw[qnZ (by decide)]
    have hc:(⟨#[c]⟩:Str)=Str.ofString " "↔c=32:=by
     constructor
     . intro z
       have z:=congrArg (fun y:Str=>y.cps.toList) z;have z:[c]=[32]:=z
       simpa using z
     . rintro rfl;rfl
    refine⟨_,rfl,rfl,_,rfl,?_⟩;refine aU (fun e=>?_) (fun e=>?_)
    . have e:¬ nm="":=by
       intro z;subst z;simp at e
      refine⟨_,rfl,.inl ⟨rfl,_,SqL.of au⟩,_,rfl,p,_,_,rfl,rfl,au,(by unfold sizeLine;simp;omega),?_⟩;refine⟨_,rfl,rfl,_,rfl,?_⟩;refine aU (fun e2=>?_) (fun e2=>?_)
      . have e2:¬ c=32:=by
         intro z;have:=hc.mpr z;rw[this]at e2;simp at e2
        refine⟨_,rfl,.inl ⟨rfl,_,SqL.of au⟩,_,rfl,p,_,_,rfl,rfl,au,(by unfold sizeLine;simp;omega),?_⟩;refine⟨_,rfl,?_⟩;rw[pN,pN];simp[e,e2]
      . have e2:c=32:=by
         apply Classical.byContradiction;intro z;exact e2 (by simp[show ¬ (⟨#[c]⟩:Str)=Str.ofString " " from fun y=>z (hc.mp y)])
        refine⟨_,rfl,?_⟩;rw[pN];simp[e,e2]
    . have e:nm="":=by
       apply Classical.byContradiction;intro z;exact e (by simp[z])
      refine⟨_,rfl,rfl,_,rfl,?_⟩;refine aU (fun e2=>?_) (fun e2=>?_)
      . have e2:¬ c=32:=by
         intro z;have:=hc.mpr z;rw[this]at e2;simp at e2
        refine⟨_,rfl,.inl ⟨rfl,_,SqL.of au⟩,_,rfl,p,_,_,rfl,rfl,au,(by unfold sizeLine;simp;omega),?_⟩;refine⟨_,by rw[e];rfl,?_⟩;rw[pN];simp[e,e2]
      . have e2:c=32:=by
         apply Classical.byContradiction;intro z;exact e2 (by simp[show ¬ (⟨#[c]⟩:Str)=Str.ofString " " from fun y=>z (hc.mp y)])
        refine⟨_,by rw[e];rfl,?_⟩;simp[e,e2]
 . rintro σ H2 ⟨sg,rfl,rfl⟩
   have e:(x++Str.ofString " ").cps.toList.take (x++Str.ofString " ").cps.size=x.cps.toList++[32]:=by
    rw[List.take_of_length_le (by simp)];show(x.cps ++ #[32]).toList=_;simp
   rw[e];exact⟨_,rfl,k p hp⟩
theorem Oh:¬ (("trees":Str)="signs"):=by decide +kernel
def fl(tl sl:Addr):List (Str×V):=bf "signs" (.ref sl) (bf "trees" (.ref tl) [])
theorem jn(tl sl:Addr):(fl tl sl).lookup ("trees":Str)=some (.ref tl):=by
 unfold fl;rw[bC,qnZ Oh,bC,qp rfl]
theorem dI(tl sl:Addr):(fl tl sl).lookup ("signs":Str)=some (.ref sl):=by
 unfold fl;rw[bC,qp rfl]
theorem lK (tl sl:Addr) {m:Str} (h1:¬ m="signs") (h2:¬ m="trees"):(fl tl sl).lookup m=none:=by
 unfold fl;rw[bC,qnZ h1,bC,qnZ h2]
 all_goals rfl
structure UAt(C:Addr)(H:Hp)(p dx tl sl:Addr)(ts:List Tr)(ss:List Str):Prop where
 ob:H p=some (.ins C dx (fl tl sl))
 ne:tl≠sl
 tr:∃ us,H tl=some (.lst us)/\Paired (TrAt H) us.reverse ts
 sg:H sl=some (.lst (ss.reverse.map V.str))
def Keep(tl sl:Addr)(H H':Hp):Prop:=∀ b o,H b=some o->b≠tl->b≠sl->H' b=some o
inductive spUInit(C:Addr)(vs:List V)(H:Hp)(Q:VK)(E:XK):Prop
 |mk (p dx) (_:vs=[.ref p]) (_:H p=some (.ins C dx [])) (_:∀ tl sl H',H tl=none->H sl=none->UAt C H' p dx tl sl [] []->(∀ b o,H b=some o->b≠p->H' b=some o)->Q .non H')
def pC(x:Str):Op:=if x="&" then .and else if x="|" then .or else if x=">" then .thn else .same
theorem Oi{x:Str}(h:cD x):bY kdL (.inr x)=some (.str (pC x).str):=by
 rcases h with rfl|rfl|rfl|rfl <;> decide +kernel
def eN(s:Str):List Tr->List Tr
 | r::rest=>if s="~" then .not r::rest else match rest with
  |l::rest'=>.bin (pC s) l r::rest'
  |[]=>[r]
 |[]=>[]
inductive spFold(C:Addr)(vs:List V)(H:Hp)(Q:VK)(E:XK):Prop
 |mk (p dx tl sl ts s ss) (_:vs=[.ref p]) (_:UAt C H p dx tl sl ts (s::ss)) (_:((s="~"/\1<=ts.length)\/(cD s/\2<=ts.length))) (_:ts.length<=5000) (_:∀ H',UAt C H' p dx tl sl (eN s ts) ss->Keep tl sl H H'->Q .non H')
theorem scUInit:FnScope ["self"] ["self"] (aB S48):=mkS
theorem Hz(T:Txt P w K mg t):FO P w K mg base 1 t.a48 t.d48 ["self"] (spUInit t.za):=by
 refine T.q48.F.ok2 scUInit (fun cdv A outer s H vs Q E hr h=>?_);obtain⟨p,dx,rfl,hp,k⟩:=h;have nd:=scUInit.nd
 refine⟨_,(ao (iQ (pvl 0) (bF aj) rfl)
   (aq (iQ (pvl 0) (bF aj) rfl))),?_⟩
 refine⟨qnz _,fun tl htl=>?_⟩;have n1:p≠tl:=aM hp htl;refine⟨_,rfl,p,t.za,dx,_,rfl,by rw[aF n1];exact hp,T.ze,T.zw,(by show 0<1000;decide),?_⟩;refine⟨qnz _,fun sl hsl=>?_⟩;have n2:p≠sl:=aM au hsl
 have n3:tl≠sl:=by
  intro z;subst z;rw[aF (Ne.symm n1),au]at hsl;cases hsl
 refine⟨_,rfl,p,t.za,dx,_,rfl,by rw[aF n2,au],T.ze,T.zl,(by show 1<1000;decide),?_⟩;refine k tl sl _ htl ?_ ⟨au,n3,⟨[],?_,.nil⟩,?_⟩ fun b o e hb=>?_
 . rw[aF (Ne.symm n2),aF (Ne.symm n3)]at hsl;exact hsl
 . rw[aF (Ne.symm n1),aF n3,aF (Ne.symm n1),au]
 . rw[aF (Ne.symm n2),au];rfl
 . have b1:b≠tl:=aM e htl
   have b2:b≠sl:=aM (by rw[aF hb,aF b1];exact e) hsl;rw[aF hb,aF b2,aF hb,aF b1];exact e
theorem scFold:FnScope ["self","sign","right","left"] ["self"] (aB S51):=mkS
theorem yR(T:Txt P w K mg t):FO P w K mg base 1 t.a51 t.d51 ["self"] (spFold t.za):=by
 refine T.q51.F.ok2 scFold (fun cdv A outer s H vs Q E hr h=>?_);obtain⟨p,dx,tl,sl,ts,sg,ss,rfl,U,hs,hl,k⟩:=h;have nd:=scFold.nd;have hu:=gF hr
 refine⟨_,(ao (psl 1 nd (mH PySem.F.plainAttrs_list PySem.F.slot_list_pop PySem.F.type_list_pop oF (bN (pvl 0) rfl)))
   (ao (psl 2 nd (mH PySem.F.plainAttrs_list PySem.F.slot_list_pop PySem.F.type_list_pop oF (bN (pvl 0) rfl)))
   (ao (aV (aH aW (pvl 1) az (aN _))
    (ao (bA (bW PySem.F.plainAttrs_list PySem.F.slot_list_append PySem.F.type_list_append cM (bN (pvl 0) rfl) (aa (bw (aa az (aa (pvl 2) aj))) aj)))
    (aq JN))
    aP)
   (ao (psl 3 nd (mH PySem.F.plainAttrs_list PySem.F.slot_list_pop PySem.F.type_list_pop oF (bN (pvl 0) rfl)))
   (aq (bA (bW PySem.F.plainAttrs_list PySem.F.slot_list_append PySem.F.type_list_append cM (bN (pvl 0) rfl) (aa (bw (aa (jh T.zD hu (fG (v:=.ref t.zD) T.zav rfl) (pvl 1) (fun _ _=>rfl)) (aa (pvl 3) (aa (pvl 2) aj)))) aj)))))))),?_⟩
 obtain⟨ob,ne,⟨us,htl,hpu⟩,hsl⟩:=U;have hsl':H sl=some (.lst (ss.reverse.map V.str++[.str sg])):=by rw[hsl];simp
 have nps:p≠sl:=bH ob hsl (by intro z;cases z);have npt:p≠tl:=bH ob htl (by intro z;cases z)
 obtain⟨r,rest,rfl⟩:∃ r rest,ts=r::rest:=by
  cases ts with
  |nil=>rcases hs with⟨_,z⟩|⟨_,z⟩ <;> simp at z
  |cons r rest=>exact⟨r,rest,rfl⟩
 obtain⟨ur,vr,hus,hr1,hpr⟩:∃ ur vr,us=vr.reverse++[ur]/\TrAt H ur r/\Paired (TrAt H) vr rest:=by
  generalize hq:us.reverse=q at hpu;cases hpu with
  |cons h1 h2=>exact⟨_,_,by rw[<- List.reverse_reverse us,hq];simp,h1,h2⟩
 subst hus;refine⟨_,rfl,p,t.za,dx,_,_,rfl,ob,T.ze,T.zl,dI _ _,.inl ⟨rfl,_,SqL.of hsl⟩,sl,_,.str sg,rfl,rfl,hsl',by simp,?_⟩;rw[List.dropLast_concat];generalize hH1:upd H sl (.lst (ss.reverse.map V.str))=H1;have o1:∀ b,b≠sl->H1 b=H b:=fun b hb=>by rw[<- hH1,aF hb]
 refine⟨_,rfl,p,t.za,dx,_,_,rfl,(o1 p nps).trans ob,T.ze,T.zw,jn _ _,.inl ⟨rfl,_,SqL.of ((o1 tl ne).trans htl)⟩,tl,_,ur,rfl,rfl,(o1 tl ne).trans htl,by simp,?_⟩;rw[List.dropLast_concat];generalize hH2:upd H1 tl (.lst vr.reverse)=H2;have o2:∀ b,b≠sl->b≠tl->H2 b=H b:=fun b hb hb'=>by rw[<- hH2,aF hb',o1 b hb]
 have htl2:H2 tl=some (.lst vr.reverse):=by rw[<- hH2,au]
 have hsl2:H2 sl=some (.lst (ss.reverse.map V.str)):=by rw[<- hH2,aF (Ne.symm ne),<- hH1,au]
 have tup2:Tups H H2:=fun b xs e=>(o2 b (bH e hsl (by intro z;cases z)) (bH e htl (by intro z;cases z))).trans e
 refine⟨_,rfl,rfl,_,rfl,?_⟩;refine aU (fun e=>?_) (fun e=>?_)
 . have e:sg="~":=V.str.inj (qod e)
   refine⟨_,rfl,p,t.za,dx,_,_,rfl,(o2 p nps npt).trans ob,T.ze,T.zw,jn _ _,.inl ⟨rfl,_,SqL.of htl2⟩,_,rfl,(by show 2<=sizeLine;decide),fun q hq=>?_⟩;have n1:tl≠q:=aM htl2 hq;have n2:sl≠q:=aM hsl2 hq;refine⟨tl,_,_,rfl,rfl,by rw[aF n1];exact htl2,?_,?_⟩
   . have:=Paired.length hpr
     simp at hl ⊢;unfold sizeLine;omega
   have up:∀ b o,H2 b=some o->b≠tl->upd (upd H2 q (.tup [.str "not",ur])) tl (.lst (vr.reverse++[.ref q])) b=some o:=fun b o z hb=>by
    rw[aF hb,aF (aM z hq)];exact z
   have tup3:Tups H (upd (upd H2 q (.tup [.str "not",ur])) tl (.lst (vr.reverse++[.ref q]))):=fun b xs z=>up b _ (tup2 b xs z) (bH z htl (by intro z;cases z))
   refine k _ ⟨up p _ ((o2 p nps npt).trans ob) npt,ne,⟨_,au,?_⟩,up sl _ hsl2 (Ne.symm ne)⟩ fun b o z h1 h2=>up b o ((o2 b h2 h1).trans z) h1
   rw[List.reverse_append];simp only[eN,e,if_true,List.reverse_reverse];refine .cons (.not ?_ (hr1.mono tup3)) (cP tup3 hpr);rw[aF (Ne.symm n1),au]
 . have e:¬ sg="~":=fun z=>e (qdt (congrArg V.str z))
   obtain⟨hop,h2⟩:cD sg/\2<=(r::rest).length:=by rcases hs with⟨z,_⟩|z;exact absurd z e;exact z
   obtain⟨l,rest',rfl⟩:∃ l rest',rest=l::rest':=by
    cases rest with
    |nil=>simp at h2
    |cons l rest'=>exact⟨l,rest',rfl⟩
   obtain⟨ul,vr',rfl,hl1,hpr⟩:∃ ul vr',vr=ul::vr'/\TrAt H ul l/\Paired (TrAt H) vr' rest':=by
    cases hpr with
    |cons h1 h2=>exact⟨_,_,rfl,h1,h2⟩
   have htl2':H2 tl=some (.lst (vr'.reverse++[ul])):=by rw[htl2];simp
   refine⟨_,rfl,p,t.za,dx,_,_,rfl,(o2 p nps npt).trans ob,T.ze,T.zw,jn _ _,.inl ⟨rfl,_,SqL.of htl2⟩,tl,_,ul,rfl,rfl,htl2',by simp,?_⟩;rw[List.dropLast_concat];generalize hH3:upd H2 tl (.lst vr'.reverse)=H3;have o3:∀ b,b≠sl->b≠tl->H3 b=H b:=fun b hb hb'=>by rw[<- hH3,aF hb',o2 b hb hb']
   have htl3:H3 tl=some (.lst vr'.reverse):=by rw[<- hH3,au]
   have hsl3:H3 sl=some (.lst (ss.reverse.map V.str)):=by rw[<- hH3,aF (Ne.symm ne),hsl2]
   have tup3:Tups H H3:=fun b xs e=>(o3 b (bH e hsl (by intro z;cases z)) (bH e htl (by intro z;cases z))).trans e
   refine⟨_,rfl,p,t.za,dx,_,_,rfl,(o3 p nps npt).trans ob,T.ze,T.zw,jn _ _,.inl ⟨rfl,_,SqL.of htl3⟩,_,rfl,.inr sg,_,rfl,rfl,Oi hop,_,rfl,_,rfl,(by show 3<=sizeLine;decide),fun q hq=>?_⟩;have n1:tl≠q:=aM htl3 hq;have n2:sl≠q:=aM hsl3 hq;refine⟨tl,_,_,rfl,rfl,by rw[aF n1];exact htl3,?_,?_⟩
   . have:=Paired.length hpr
     simp at hl ⊢;unfold sizeLine;omega
   have up:∀ b o,H3 b=some o->b≠tl->upd (upd H3 q (.tup [.str (pC sg).str,ul,ur])) tl (.lst (vr'.reverse++[.ref q])) b=some o:=fun b o z hb=>by
    rw[aF hb,aF (aM z hq)];exact z
   have tup4:Tups H (upd (upd H3 q (.tup [.str (pC sg).str,ul,ur])) tl (.lst (vr'.reverse++[.ref q]))):=fun b xs z=>up b _ (tup3 b xs z) (bH z htl (by intro z;cases z))
   refine k _ ⟨up p _ ((o3 p nps npt).trans ob) npt,ne,⟨_,au,?_⟩,up sl _ hsl3 (Ne.symm ne)⟩ fun b o z h1 h2=>up b o ((o3 b h2 h1).trans z) h1
   rw[List.reverse_append];simp only[eN,e,if_false,List.reverse_reverse];refine .cons (.bin ?_ (hl1.mono tup4) (hr1.mono tup4)) (cP tup4 hpr);rw[aF (Ne.symm n1),au]
def okS(ss:List Str):Prop:=∀ s∈ss,s="("\/s="~"\/cD s
def nb(ss:List Str):Nat:=ss.countP fun s:Str=>!decide (s="(") && !decide (s="~")
def bc(c:Str->Bool):List Tr->List Str->List Tr×List Str
 |ts,[]=>(ts,[])
 |ts,s::ss=>if c s=true then bc c (eN s ts) ss else(ts,s::ss)
theorem lL{s:Str}(h:cD s):¬ s="("/\¬ s="~":=by
 rcases h with rfl|rfl|rfl|rfl <;> exact⟨by decide +kernel,by decide +kernel⟩
theorem wV(ss:List Str):nb ("~" :: ss)=nb ss:=by
 unfold nb;rw[List.countP_cons];simp
theorem Jt{s:Str}(h:cD s)(ss:List Str):nb (s::ss)=nb ss+1:=by
 unfold nb;rw[List.countP_cons];simp[(lL h).1,(lL h).2]
theorem Ju(ss:List Str):nb ("(" :: ss)=nb ss:=by
 unfold nb;rw[List.countP_cons];simp
theorem jV {s:Str} {ss:List Str} {ts:List Tr} (ho:s="~"\/cD s) (h:ts.length=nb (s::ss)+1):((s="~"/\1<=ts.length)\/(cD s/\2<=ts.length))/\(eN s ts).length=nb ss+1:=by
 rcases ho with rfl|ho
 . rw[wV]at h
   refine⟨.inl ⟨rfl,by omega⟩,?_⟩;cases ts with
   |nil=>simp at h
   |cons r rest=>simpa[eN]using h
 . rw[Jt ho]at h
   refine⟨.inr ⟨ho,by omega⟩,?_⟩
   match ts,h with
   |r::l::rest,h=>simpa[eN,(lL ho).2]using h
theorem Keep.trans{tl sl:Addr}{H H1 H2:Hp}(a:Keep tl sl H H1)(b:Keep tl sl H1 H2):Keep tl sl H H2:=fun c o e h1 h2=>b c o (a c o e h1 h2) h1 h2
def bD(s:Str):Bool:=!decide (s="(")
inductive spFtb(C:Addr)(vs:List V)(H:Hp)(Q:VK)(E:XK):Prop
 |mk (p dx tl sl ts ss) (_:vs=[.ref p]) (_:UAt C H p dx tl sl ts ss) (_:okS ss) (_:ts.length=nb ss+1) (_:ts.length<=5000) (_:∀ H',UAt C H' p dx tl sl (bc bD ts ss).1 (bc bD ts ss).2 -> Keep tl sl H H'->Q .non H')
theorem scFtb:FnScope ["self"] ["self"] (aB S52):=mkS
theorem Ea(T:Txt P w K mg t):FO P w K mg base 2 t.a52 t.d52 ["self"] (spFtb t.za):=by
 refine T.q52.F.ok2 scFtb (fun cdv A outer s H vs Q E hr h=>?_);obtain⟨p,dx,tl,sl,ts,ss,rfl,U,hok,hc,hl,k⟩:=h;have nd:=scFtb.nd;have G51:=yR (base:=base) T
 refine⟨_,(aq (j8 own1 (PW.pt (jC (g8 (bN (pvl 0) rfl) (fun _=>rfl)) (jf (aH gn (pix cg (bN (pvl 0) rfl) (lA jD ak)) az (aN _)))))
    (aq (bA (dz (pvl 0) T.ze T.q51.e G51 (hr.mo) T.q51.b .nil aJ))))),?_⟩
 refine⟨fun m σ H2=>∃ ts' ss',m=ss'.length/\σ=[some (.ref p)]/\UAt t.za H2 p dx tl sl ts' ss'/\Keep tl sl H H2/\okS ss'/\ts'.length=nb ss' + 1/\ts'.length<=5000/\bc bD ts' ss'=bc bD ts ss,
  ⟨_,ts,ss,rfl,rfl,U,fun _ _ z _ _=>z,hok,hc,hl,rfl⟩,?_⟩
 rintro m σ H2 ⟨ts',ss',rfl,rfl,U2,k2,hok2,hc2,hl2,hf⟩;refine⟨_,rfl,p,_,dx,_,_,rfl,U2.ob,T.ze,T.zl,dI _ _,_,.inl ⟨_,SqL.of U2.sg,rfl⟩,?_⟩;cases ss' with
 | nil =>
  refine bz ?_;refine bz ?_;rw[<- hf]at k;exact k H2 U2 k2
 | cons s1 ss1 =>
  have hsg:H2 sl=some (.lst (ss1.reverse.map V.str++[.str s1])):=by rw[U2.sg];simp
  rw[qp (by simp)];refine⟨_,rfl,p,_,dx,_,_,rfl,U2.ob,T.ze,T.zl,dI _ _,_,rfl,sl,_,-1,.str s1,rfl,rfl,SqL.of hsg,mX _ _,rfl,_,rfl,?_⟩;refine aU (fun e=>?_) (fun e=>?_)
  . have e:¬ s1="(":=by intro z;subst z;simp at e
    have ho:s1="~"\/cD s1:=(hok2 s1 (by simp)).resolve_left e;obtain⟨q1,q2⟩:=jV ho hc2;refine⟨fun σ' H'=>σ'=[some (.ref p)]/\UAt t.za H' p dx tl sl (eN s1 ts') ss1/\Keep tl sl H2 H',?_,?_⟩
    . rintro σ' H' ⟨rfl,U3,k3⟩
      refine⟨ss1.length,by simp,eN s1 ts',ss1,rfl,rfl,U3,k2.trans k3,fun s hs=>hok2 s (by simp[hs]),q2,?_,?_⟩
      . have h1:nb ss1<=nb (s1::ss1):=by unfold nb;rw[List.countP_cons];omega
        omega
      . rw[<- hf];simp[bc,bD,e]
    . exact⟨_,rfl,p,dx,_,rfl,U2.ob,lK _ _ (by decide +kernel) (by decide +kernel),p,dx,tl,sl,ts',s1,ss1,rfl,U2,q1,hl2,fun H' U3 k3=>⟨rfl,U3,k3⟩⟩
  . have e:s1="(":=by
     apply Classical.byContradiction;intro z;exact e (by simp[z])
    have:bc bD ts' (s1::ss1)=(ts',s1::ss1):=by simp[bc,bD,e]
    rw[<- hf,this]at k;exact k H2 U2 k2
inductive spClose(t:Adr)(vs:List V)(H:Hp)(Q:VK)(E:XK):Prop
 |mk (p dx tl sl ts ss) (_:vs=[.ref p]) (_:UAt t.za H p dx tl sl ts ss) (_:okS ss) (_:ts.length=nb ss+1) (_:ts.length<=5000) (_:(∀ H',(bc bD ts ss).2=[]->Keep tl sl H H'->E (.ref t.zj) none H')) (_:(∀ H' s2 ss2,(bc bD ts ss).2=s2::ss2->UAt t.za H' p dx tl sl (bc bD ts ss).1 ss2->Keep tl sl H H'->Q .non H'))
inductive spUWhole(t:Adr)(vs:List V)(H:Hp)(Q:VK)(E:XK):Prop
 |mk (p dx tl sl ts ss) (_:vs=[.ref p]) (_:UAt t.za H p dx tl sl ts ss) (_:okS ss) (_:ts.length=nb ss+1) (_:ts.length<=5000) (_:(∀ H',¬ (bc bD ts ss).2=[]->Keep tl sl H H'->E (.ref t.zj) none H')) (_:(∀ H' v r rest,(bc bD ts ss).2=[]->(bc bD ts ss).1=r::rest->TrAt H' v r->Keep tl sl H H'->Q v H'))
theorem ye{ts:List Tr}{ss:List Str}(ho:okS ss)(h:ts.length=nb ss+1):(bc bD ts ss).1.length=nb (bc bD ts ss).2+1:=by
 induction ss generalizing ts with
 |nil=>exact h
 | cons s ss ih =>
  unfold bc
  by_cases e:s="("
  . simp[bD,e];rw[e]at h;exact h
  . have ho':s="~"\/cD s:=(ho s (by simp)).resolve_left e
    have q:=jV ho' h;simp only[bD,e,decide_false,Bool.not_false,if_true];exact ih (fun x hx=>ho x (by simp[hx])) q.2
theorem scClose:FnScope ["self"] ["self"] (aB S53):=mkS
theorem HD(T:Txt P w K mg t):FO P w K mg base 3 t.a53 t.d53 ["self"] (spClose t):=by
 refine T.q53.F.ok2 scClose (fun cdv A outer s H vs Q E hr h=>?_);obtain⟨p,dx,tl,sl,ts,ss,rfl,U,hok,hc,hl,kE,kQ⟩:=h;have nd:=scClose.nd;have G52:=Ea (base:=base) T
 refine⟨_,(ao (bA (dz (pvl 0) T.ze T.q52.e G52 (hr.mo) T.q52.b .nil aJ))
   (ao (aV (cQ (g8 (bN (pvl 0) rfl) (fun _=>rfl)))
    (aq (dF eO rfl T.zu T.zy (aa az aj)))
    aP)
   (aq (bA (mH PySem.F.plainAttrs_list PySem.F.slot_list_pop PySem.F.type_list_pop oF (bN (pvl 0) rfl)))))),?_⟩
 refine⟨_,rfl,p,dx,_,rfl,U.ob,lK _ _ (by decide +kernel) (by decide +kernel),p,dx,tl,sl,ts,ss,rfl,U,hok,hc,hl,fun H2 U2 k2=>?_⟩;generalize bc bD ts ss=f at *;obtain⟨ts2,ss2⟩:=f;refine⟨_,rfl,p,_,dx,_,_,rfl,U2.ob,T.ze,T.zl,dI _ _,_,.inl ⟨_,SqL.of U2.sg,rfl⟩,?_⟩;cases ss2 with
 |nil=>exact bT ⟨by show 1<=sizeLine;decide,kE H2 rfl k2⟩
 | cons s2 ss3 =>
  rw[qnZ (by simp)];have hsg:H2 sl=some (.lst (ss3.reverse.map V.str++[.str s2])):=by rw[U2.sg];simp
  have nps:p≠sl:=bH U2.ob hsg (by intro z;cases z);refine⟨_,rfl,p,_,dx,_,_,rfl,U2.ob,T.ze,T.zl,dI _ _,.inl ⟨rfl,_,SqL.of hsg⟩,sl,_,.str s2,rfl,rfl,hsg,by simp,?_⟩;rw[List.dropLast_concat];obtain⟨us,htl,hpu⟩:=U2.tr;have up:∀ b o,H2 b=some o->b≠sl->upd H2 sl (.lst (ss3.reverse.map V.str)) b=some o:=fun b o z hb=>by rw[aF hb];exact z
  have tup:Tups H2 (upd H2 sl (.lst (ss3.reverse.map V.str))):=fun b xs z=>up b _ z (bH z hsg (by intro z;cases z))
  exact kQ _ s2 ss3 rfl ⟨up p _ U2.ob nps,U2.ne,⟨us,up tl _ htl U2.ne,cP tup hpu⟩,au⟩ (k2.trans fun b o z h1 h2=>up b o z h2)
theorem scUWhole:FnScope ["self"] ["self"] (aB S54):=mkS
theorem Eb(T:Txt P w K mg t):FO P w K mg base 3 t.a54 t.d54 ["self"] (spUWhole t):=by
 refine T.q54.F.ok2 scUWhole (fun cdv A outer s H vs Q E hr h=>?_);obtain⟨p,dx,tl,sl,ts,ss,rfl,U,hok,hc,hl,kE,kQ⟩:=h;have nd:=scUWhole.nd;have G52:=Ea (base:=base) T
 refine⟨_,(ao (bA (dz (pvl 0) T.ze T.q52.e G52 (hr.mo) T.q52.b .nil aJ))
   (ao (aV (g8 (bN (pvl 0) rfl) (fun _=>rfl))
    (aq (dF eO rfl T.zu T.zy (aa az aj)))
    aP)
   (aq (aA (mH PySem.F.plainAttrs_list PySem.F.slot_list_pop PySem.F.type_list_pop oF (bN (pvl 0) rfl)))))),?_⟩
 have hc2:=ye hok hc;refine⟨_,rfl,p,dx,_,rfl,U.ob,lK _ _ (by decide +kernel) (by decide +kernel),p,dx,tl,sl,ts,ss,rfl,U,hok,hc,hl,fun H2 U2 k2=>?_⟩;generalize bc bD ts ss=f at *;obtain⟨ts2,ss2⟩:=f;refine⟨_,rfl,p,_,dx,_,_,rfl,U2.ob,T.ze,T.zl,dI _ _,_,.inl ⟨_,SqL.of U2.sg,rfl⟩,?_⟩;cases ss2 with
 | cons s2 ss3 =>
  rw[qp (by simp)];exact⟨by show 1<=sizeLine;decide,kE H2 (by simp) k2⟩
 | nil =>
  refine bz ?_;obtain⟨us,htl,hpu⟩:=U2.tr;have hc3:ts2.length=1:=hc2
  obtain⟨r,rest,rfl⟩:∃ r rest,ts2=r::rest:=by
   cases ts2 with
   |nil=>simp at hc3
   |cons r rest=>exact⟨r,rest,rfl⟩
  obtain⟨ur,vr,rfl,hr1,_⟩:∃(ur:V)(vr:List V),us=vr.reverse++[ur]/\TrAt H2 ur r/\Paired (TrAt H2) vr rest:=by
   have hpu':Paired (TrAt H2) us.reverse (r::rest):=hpu;generalize hq:us.reverse=q at hpu';cases hpu' with
   |cons h1 h2=>exact⟨_,_,by rw[<- List.reverse_reverse us,hq];simp,h1,h2⟩
  refine⟨_,rfl,p,_,dx,_,_,rfl,U2.ob,T.ze,T.zw,jn _ _,.inl ⟨rfl,_,SqL.of htl⟩,tl,_,ur,rfl,rfl,htl,by simp,?_⟩;rw[List.dropLast_concat];have up:∀ b o,H2 b=some o->b≠tl->upd H2 tl (.lst vr.reverse) b=some o:=fun b o z hb=>by rw[aF hb];exact z
  have tup:Tups H2 (upd H2 tl (.lst vr.reverse)):=fun b xs z=>up b _ z (bH z htl (by intro z;cases z))
  exact kQ _ ur r rest rfl rfl (hr1.mono tup) (k2.trans fun b o z h1 h2=>up b o z h1)
inductive spBegin(t:Adr)(vs:List V)(H:Hp)(Q:VK)(E:XK):Prop
 |mk (p dx tl sl ts ss x) (_:vs=[.ref p,.str x]) (_:UAt t.za H p dx tl sl ts ss) (_:Small x) (_:ts.length<=5000) (_:ss.length<=5000) (_:(if x="~"\/x="(" then ∀ H',UAt t.za H' p dx tl sl ts (x::ss)->Keep tl sl H H'->Q (.bl true) H' else if x="1" then ∀ H',UAt t.za H' p dx tl sl (.yes::ts) ss->Keep tl sl H H'->Q (.bl false) H' else if x="0" then ∀ H',UAt t.za H' p dx tl sl (.no::ts) ss->Keep tl sl H H'->Q (.bl false) H' else if isName x=true then ∀ H',UAt t.za H' p dx tl sl (.nm x::ts) ss->Keep tl sl H H'->Q (.bl false) H' else ∀ H',Keep tl sl H H'->E (.ref t.zj) none H'))
theorem UAt.sign{C:Addr}{H:Hp}{p dx tl sl:Addr}{ts:List Tr}{ss:List Str}(U:UAt C H p dx tl sl ts ss)(x:Str):UAt C (upd H sl (.lst (ss.reverse.map V.str++[.str x]))) p dx tl sl ts (x::ss)/\Keep tl sl H (upd H sl (.lst (ss.reverse.map V.str++[.str x]))):=by
 obtain⟨us,htl,hpu⟩:=U.tr;have nps:p≠sl:=bH U.ob U.sg (by intro z;cases z);have up:∀ b o,H b=some o->b≠sl->upd H sl (.lst (ss.reverse.map V.str++[.str x])) b=some o:=fun b o z hb=>by rw[aF hb];exact z
 have tup:Tups H (upd H sl (.lst (ss.reverse.map V.str++[.str x]))):=fun b xs z=>up b _ z (bH z U.sg (by intro z;cases z))
 exact⟨⟨up p _ U.ob nps,U.ne,⟨us,up tl _ htl U.ne,cP tup hpu⟩,by rw[au];simp⟩,fun b o z _ h2=>up b o z h2⟩
theorem UAt.part{C:Addr}{H H1:Hp}{p dx tl sl:Addr}{ts:List Tr}{ss:List Str}(U:UAt C H p dx tl sl ts ss)(s1:∀ b o,H b=some o->H1 b=some o){v:V}{r:Tr}(hv:TrAt H1 v r){us:List V}(hus:H tl=some (.lst us)):
  UAt C (upd H1 tl (.lst (us++[v]))) p dx tl sl (r::ts) ss/\Keep tl sl H (upd H1 tl (.lst (us++[v]))):=by
 obtain⟨us',htl,hpu⟩:=U.tr;rw[hus]at htl;cases htl;have npt:p≠tl:=bH U.ob hus (by intro z;cases z);have up:∀ b o,H1 b=some o->b≠tl->upd H1 tl (.lst (us++[v])) b=some o:=fun b o z hb=>by rw[aF hb];exact z
 have tup1:Tups H1 (upd H1 tl (.lst (us++[v]))):=fun b xs z=>up b _ z (bH z (s1 _ _ hus) (by intro z;cases z))
 have tup:Tups H (upd H1 tl (.lst (us++[v]))):=fun b xs z=>tup1 b xs (s1 b _ z)
 refine⟨⟨up p _ (s1 _ _ U.ob) npt,U.ne,⟨_,au,?_⟩,up sl _ (s1 _ _ U.sg) (Ne.symm U.ne)⟩,fun b o z h1 _=>up b o (s1 b o z) h1⟩;rw[List.reverse_append];exact .cons (hv.mono tup1) (cP tup hpu)
theorem scBegin:FnScope ["self","word"] ["self","word"] (aB S49):=mkS
theorem HF(T:Txt P w K mg t):FO P w K mg base 4 t.a49 t.d49 ["self","word"] (spBegin t):=by
 refine T.q49.F.ok2 scBegin (fun cdv A outer s H vs Q E hr h=>?_);obtain⟨p,dx,tl,sl,ts,ss,x,rfl,U,hx,hl1,hl2,k⟩:=h;have nd:=scBegin.nd;have G46:=Hx (base:=base) T
 refine⟨_,(ao (aV (PW.pt (gm (aH aW (pvl 1) az (aN _)) (gP (aH aW (pvl 1) az (aN _)))))
    (ao (bA (bW PySem.F.plainAttrs_list PySem.F.slot_list_append PySem.F.type_list_append cM (bN (pvl 0) rfl) (aa (pvl 1) aj)))
    (aq (aA eQ)))
    aP)
   (ao (bA (bW PySem.F.plainAttrs_list PySem.F.slot_list_append PySem.F.type_list_append cM (bN (pvl 0) rfl) (aa (aQ G46 (hr.mo) T.q46.m T.q46.k T.q46.b bx (aa (pvl 1) aj)) aj)))
   (aq (aA eQ)))),?_⟩
 obtain⟨us,htl,hpu⟩:=U.tr;have hlen:us.length=ts.length:=by rw[<- Paired.length hpu];simp
 have lay:∀(H1:Hp)(v:V)(r:Tr),(∀ b o,H b=some o->H1 b=some o)->TrAt H1 v r->(∀ H',UAt t.za H' p dx tl sl (r::ts) ss->Keep tl sl H H'->Q (.bl false) H')->rAppend (.ref tl) [v] H1 (fun _ H2=>Q (.bl false) H2):=fun H1 v r s1 hv k' =>
  ⟨tl,us,v,rfl,rfl,s1 _ _ htl,by unfold sizeLine;omega,k' _ (U.part s1 hv htl).1 (U.part s1 hv htl).2⟩
 have sgn:(∀ H',UAt t.za H' p dx tl sl ts (x::ss)->Keep tl sl H H'->Q (.bl true) H')->rAppend (.ref sl) [.str x] H (fun _ H2=>Q (.bl true) H2):=fun k' =>
  ⟨sl,_,_,rfl,rfl,U.sg,by simp;unfold sizeLine;omega,k' _ (U.sign x).1 (U.sign x).2⟩
 refine⟨_,rfl,rfl,_,rfl,?_⟩;refine aU (fun e=>?_) (fun e=>?_)
 . have e:x="~":=V.str.inj (qod e)
   rw[qp (.inl e)]at k;refine bT ?_;exact⟨_,rfl,p,_,dx,_,_,rfl,U.ob,T.ze,T.zl,dI _ _,.inl ⟨rfl,_,SqL.of U.sg⟩,_,rfl,sgn k⟩
 have e1:¬ x="~":=fun z=>e (qdt (congrArg V.str z))
 refine⟨_,rfl,rfl,_,rfl,?_⟩;refine aU (fun e=>?_) (fun e=>?_)
 . have e:x="(":=V.str.inj (qod e)
   rw[qp (.inr e)]at k;exact⟨_,rfl,p,_,dx,_,_,rfl,U.ob,T.ze,T.zl,dI _ _,.inl ⟨rfl,_,SqL.of U.sg⟩,_,rfl,sgn k⟩
 have e2:¬ x="(":=fun z=>e (qdt (congrArg V.str z))
 rw[qnZ (by rintro(z|z);exact e1 z;exact e2 z)]at k;refine⟨_,rfl,p,_,dx,_,_,rfl,U.ob,T.ze,T.zw,jn _ _,.inl ⟨rfl,_,SqL.of htl⟩,_,rfl,x,rfl,hx,?_⟩;have fresh:∀(H1:Hp)(q:Addr)(o:HO),H1 q=none->∀ b u,H1 b=some u->upd H1 q o b=some u:=fun H1 q o hq b u z=>by rw[aF (aM z hq)];exact z
 by_cases h1:x="1"
 . rw[qp h1]at k
   exact .inl ⟨h1,fun q hq=>lay _ _ _ (fresh H q _ hq) (.yes au) k⟩
 rw[qnZ h1]at k
 by_cases h0:x="0"
 . rw[qp h0]at k
   exact .inr (.inl ⟨h0,fun q hq=>lay _ _ _ (fresh H q _ hq) (.no au) k⟩)
 rw[qnZ h0]at k;refine .inr (.inr ⟨h1,h0,fun H1 s1=>?_⟩);cases hn:isName x with
 | true =>
  rw[qp hn]at k;exact bT fun q hq=>lay _ _ _ (fun b o z=>fresh H1 q _ hq b o (s1 b o z)) (.nm au) k
 | false =>
  rw[qnZ (by rw[hn];decide)]at k;exact bz (k H1 fun b o z _ _=>s1 b o z)
def tk(x:Str)(s:Str):Bool:=fM s x
def HH(t:Adr):Sp:=fun vs H Q E=>∃ p dx tl sl ts ss x,vs=[.ref p,.str x]/\UAt t.za H p dx tl sl ts ss/\okS ss/\ts.length=nb ss+1/\ts.length<=5000/\ss.length<=5000/\Small x /\
 (x=")"->(∀ H',(bc bD ts ss).2=[]->Keep tl sl H H'->E (.ref t.zj) none H')/\(∀ H' s2 ss2,(bc bD ts ss).2=s2::ss2->UAt t.za H' p dx tl sl (bc bD ts ss).1 ss2->Keep tl sl H H'->Q (.bl false) H')) /\
 (¬ x=")"->¬ cD x->∀ H',Keep tl sl H H'->E (.ref t.zj) none H') /\
 (¬ x=")"->cD x->∀ H',UAt t.za H' p dx tl sl (bc (tk x) ts ss).1 (x::(bc (tk x) ts ss).2)->Keep tl sl H H'->Q (.bl true) H')
theorem Jv(x:Str):tk x "("=false:=by simp[tk,fM]
theorem scFollow:FnScope ["self","word"] ["self","word"] (aB S50):=mkS
theorem Ec(T:Txt P w K mg t):FO P w K mg base 4 t.a50 t.d50 ["self","word"] (HH t):=by
 refine T.q50.F.ok1 scFollow (fun vs H Q E h=>by obtain⟨p,dx,tl,sl,ts,ss,x,rfl,_⟩:=h;rfl) (fun cdv A outer s H vs Q E hr h=>?_);obtain⟨p,dx,tl,sl,ts,ss,x,rfl,U,hok,hc,hl,hl2,hx,kB,kN,kO⟩:=h;have nd:=scFollow.nd;have G51:=yR (base:=base) T;have G53:=HD (base:=base) T;have G47:=Hw (base:=base) T
 refine⟨_,(ao (aV (aH aW (pvl 1) az (aN _))
    (ao (bA (dz (pvl 0) T.ze T.q53.e G53 (hr.mo) T.q53.b .nil bx))
    (aq (aA eQ)))
    aP)
   (ao (aV (rD (oK T.zt (pvl 1) (fG (v:=.ref t.zt) T.zJ rfl)))
    (aq (dF eO rfl T.zu T.zy (aa (wH (tO (pvl 1)) az) aj)))
    aP)
   (ao (j8 own1 (PW.pt (jC (g8 (bN (pvl 0) rfl) (fun _=>rfl)) (jf (bZ (aQ G47 (hr.mo) T.q47.m T.q47.k T.q47.b aJ (aa (pix cg (bN (pvl 0) rfl) (lA jD ak)) (aa (pvl 1) aj)))))))
    (aq (bA (dz (pvl 0) T.ze T.q51.e G51 (hr.mo) T.q51.b .nil aJ))))
   (ao (bA (bW PySem.F.plainAttrs_list PySem.F.slot_list_append PySem.F.type_list_append cM (bN (pvl 0) rfl) (aa (pvl 1) aj)))
   (aq (aA eQ)))))),?_⟩
 refine⟨_,rfl,rfl,_,rfl,?_⟩;refine aU (fun e=>?_) (fun e=>?_)
 . have e:x=")":=V.str.inj (qod e)
   obtain⟨k1,k2⟩:=kB e;exact⟨_,rfl,p,dx,_,rfl,U.ob,lK _ _ (by decide +kernel) (by decide +kernel),p,dx,tl,sl,ts,ss,rfl,U,hok,hc,hl,k1,fun H' s2 ss2 h1 U2 h2=>k2 H' s2 ss2 h1 U2 h2⟩
 have e1:¬ x=")":=fun z=>e (qdt (congrArg V.str z))
 refine⟨_,rfl,.inr x,rfl,rfl,_,rfl,?_⟩
 by_cases ho:cD x
 case neg =>
  rw[Og ho];refine bT ?_;refine⟨_,rfl,x,rfl,repr_fits hx.2 hx.1,_,rfl,repr_fits hx.2 hx.1,_,rfl,?_,(by show 1<=sizeLine;decide),kN e1 ho H fun _ _ z _ _=>z⟩;have q1:=PySem.StrLaws.reprText_len x hx.2;have q2:=hx.1;rw[strLen_append];have q3:(Str.ofString " can't follow a part of a sentence").length=34:=by decide +kernel
  rw[q3];unfold sizeLine;omega
 case pos =>
  rw[Bp ho];refine bz ?_;have kO:=kO e1 ho
  refine⟨fun m σ H2=>∃ ts' ss',m=ss'.length/\σ=[some (.ref p),some (.str x)]/\UAt t.za H2 p dx tl sl ts' ss'/\Keep tl sl H H2/\okS ss'/\ts'.length=nb ss' + 1/\ts'.length<=5000/\ss'.length<=5000/\bc (tk x) ts' ss'=bc (tk x) ts ss,
   ⟨_,ts,ss,rfl,rfl,U,fun _ _ z _ _=>z,hok,hc,hl,hl2,rfl⟩,?_⟩
  rintro m σ H2 ⟨ts',ss',rfl,rfl,U2,k2,hok2,hc2,hl3,hl4,hf⟩
  have fin:bc (tk x) ts' ss'=(ts',ss')->rAppend (.ref sl) [.str x] H2 (fun _ H3=>Q (.bl true) H3):=fun hq=>by
   rw[<- hf,hq]at kO;exact⟨sl,_,_,rfl,rfl,U2.sg,by simp;unfold sizeLine;omega,kO _ (U2.sign x).1 (k2.trans (U2.sign x).2)⟩
  refine⟨_,rfl,p,_,dx,_,_,rfl,U2.ob,T.ze,T.zl,dI _ _,_,.inl ⟨_,SqL.of U2.sg,rfl⟩,?_⟩;cases ss' with
  | nil =>
   refine bz ?_;refine bz ?_;exact⟨_,rfl,p,_,dx,_,_,rfl,U2.ob,T.ze,T.zl,dI _ _,.inl ⟨rfl,_,SqL.of U2.sg⟩,_,rfl,fin rfl⟩
  | cons s1 ss1 =>
   have hsg:H2 sl=some (.lst (ss1.reverse.map V.str++[.str s1])):=by rw[U2.sg];simp
   rw[qp (by simp)];refine⟨_,rfl,p,_,dx,_,_,rfl,U2.ob,T.ze,T.zl,dI _ _,_,rfl,sl,_,-1,.str s1,rfl,rfl,SqL.of hsg,mX _ _,_,rfl,s1,x,rfl,hok2 s1 (by simp),ho,_,rfl,?_⟩;cases ht:fM s1 x with
   | true =>
    refine bT ?_;have e:¬ s1="(":=by intro z;subst z;have:=Jv x;unfold tk at this;rw[ht]at this;cases this
    have ho':s1="~"\/cD s1:=(hok2 s1 (by simp)).resolve_left e;obtain⟨q1,q2⟩:=jV ho' hc2;refine⟨fun σ' H'=>σ'=[some (.ref p),some (.str x)]/\UAt t.za H' p dx tl sl (eN s1 ts') ss1/\Keep tl sl H2 H',?_,?_⟩
    . rintro σ' H' ⟨rfl,U3,k3⟩
      refine⟨ss1.length,by simp,eN s1 ts',ss1,rfl,rfl,U3,k2.trans k3,fun s hs=>hok2 s (by simp[hs]),q2,?_,?_,?_⟩
      . have h1:nb ss1<=nb (s1::ss1):=by unfold nb;rw[List.countP_cons];omega
        omega
      . simp at hl4;omega
      . rw[<- hf];simp[bc,tk,ht]
    . exact⟨_,rfl,p,dx,_,rfl,U2.ob,lK _ _ (by decide +kernel) (by decide +kernel),p,dx,tl,sl,ts',s1,ss1,rfl,U2,q1,hl3,fun H' U3 k3=>⟨rfl,U3,k3⟩⟩
   | false =>
    refine bz ?_;exact⟨_,rfl,p,_,dx,_,_,rfl,U2.ob,T.ze,T.zl,dI _ _,.inl ⟨rfl,_,SqL.of U2.sg⟩,_,rfl,fin (by simp[bc,tk,ht])⟩
def gq(x:Str):Option Tr:=if x="1" then some .yes else if x="0" then some .no else if isName x=true then some (.nm x)else none
instance (x:Str):Decidable (cD x):=by unfold cD;infer_instance
abbrev Rd:=List Tr×List Str×Bool
def b7(st:Rd)(x:Str):Option Rd :=
 if st.2.2=true then(if x="~"\/x="(" then some (st.1,x::st.2.1,true)else(gq x).map fun r=>(r::st.1,st.2.1,false))
 else if x=")" then(match (bc bD st.1 st.2.1).2 with
  |[]=>none
  |_::ss=>some ((bc bD st.1 st.2.1).1,ss,false))
 else if cD x then some ((bc (tk x) st.1 st.2.1).1,x::(bc (tk x) st.1 st.2.1).2,true)
 else none
def dj:List Str->Rd->Option Rd
 |[],st=>some st
 |x::ws,st=>(b7 st x).bind (dj ws)
def qQ(st:Rd):Option Tr:=if st.2.2=true then none else match (bc bD st.1 st.2.1).2,(bc bD st.1 st.2.1).1 with
 |[],r::_=>some r
 |_,_=>none
def jB(ws:List Str):Option Tr:=(dj ws ([],[],true)).bind qQ
theorem Ed(ws:List Str)(x:Str)(st:Rd):dj (ws++[x]) st=(dj ws st).bind fun s=>b7 s x:=by
 induction ws generalizing st with
 |nil=>simp[dj]
 | cons y ws ih =>
  simp only[List.cons_append,dj,Option.bind_assoc]
  congr 1
  funext s
  exact ih s
theorem Ef{ws:List Str}{i:Nat}{x:Str}{st s1:Rd}(h:dj (ws.take i) st=some s1)(hx:ws[i]? = some x)(hn:b7 s1 x=none):dj ws st=none:=by
 have e:ws=ws.take i++x::ws.drop (i+1):=by
  obtain⟨hi,hv⟩:=List.getElem?_eq_some_iff.mp hx;have e2:ws.drop i=x::ws.drop (i+1):=by rw[List.drop_eq_getElem_cons hi,hv]
  rw[<- e2,List.take_append_drop]
 rw[e]
 have gen:∀(u v:List Str)(s:Rd),dj (u++v) s=(dj u s).bind (dj v):=by
  intro u
  induction u with
  |nil=>intro v s;rfl
  |cons y u ih=>intro v s;simp only[List.cons_append,dj,Option.bind_assoc];congr 1;funext z;exact ih v z
 rw[gen,h];simp[dj,hn]
theorem wW{c:Str->Bool}{ts:List Tr}{ss:List Str}(h:okS ss):okS (bc c ts ss).2:=by
 induction ss generalizing ts with
 |nil=>exact h
 | cons s ss ih =>
  unfold bc
  split
  . exact ih fun x hx=>h x (by simp[hx])
  . exact h
theorem uX{c:Str->Bool}{ts:List Tr}{ss:List Str}:(bc c ts ss).2.length<=ss.length:=by
 induction ss generalizing ts with
 |nil=>exact qnr _
 | cons s ss ih =>
  unfold bc
  split
  . exact qnt ih (by simp)
  . exact qnr _
theorem uY {c:Str->Bool} (hb:c "("=false) {ts:List Tr} {ss:List Str} (ho:okS ss) (h:ts.length=nb ss+1):(bc c ts ss).1.length=nb (bc c ts ss).2+1:=by
 induction ss generalizing ts with
 |nil=>exact h
 | cons s ss ih =>
  unfold bc
  split
  . rename_i hc
    have e:¬ s="(":=by intro z;rw[z,hb]at hc;cases hc
    exact ih (fun x hx=>ho x (by simp[hx])) (jV ((ho s (by simp)).resolve_left e) h).2
  . exact h
theorem Bq{c:Str->Bool}{ts:List Tr}{ss r:List Str}{s:Str}(h:(bc c ts ss).2=s::r):c s=false:=by
 induction ss generalizing ts with
 |nil=>cases h
 | cons y ss ih =>
  unfold bc at h
  split at h
  . exact ih h
  . rename_i hc
    cases h;exact Bool.eq_false_iff.mpr hc
structure Fit(n:Nat)(st:Rd):Prop where
 ok:okS st.2.1
 cnt:st.1.length=nb st.2.1+(if st.2.2=true then 0 else 1)
 ss:st.2.1.length<=n
theorem Jw(ss:List Str):nb ss<=ss.length:=List.countP_le_length
theorem Fit.step{n:Nat}{st st':Rd}{x:Str}(F:Fit n st)(h:b7 st x=some st'):Fit (n+1) st':=by
 obtain⟨ts,ss,due⟩:=st;obtain⟨ok,cnt,hs⟩:=F;dsimp only at ok cnt hs;unfold b7 at h;dsimp only at h;cases due with
 | true =>
  rw[qp rfl]at h cnt
  split at h
  . rename_i hx
    cases h;refine⟨fun s hs=>?_,?_,by simp;omega⟩
    . rcases List.mem_cons.mp hs with rfl|hs
      . rcases hx with z|z;exact .inr (.inl z);exact .inl z
      . exact ok s hs
    . show ts.length=nb (x::ss)+0
      rcases hx with rfl|rfl
      . rw[wV];exact cnt
      . rw[Ju];exact cnt
  . cases hl:gq x with
    |none=>rw[hl]at h;cases h
    | some r =>
     rw[hl]at h;cases h;exact⟨ok,by show(r::ts).length=nb ss+1;simp;omega,by show ss.length<=_;omega⟩
 | false =>
  rw[qnZ (by decide)]at h cnt
  split at h
  . split at h
    . cases h
    . rename_i s2 ss2 he
      cases h;have o:=wW (c:=bD) (ts:=ts) ok;have l:=uX (c:=bD) (ts:=ts) (ss:=ss);have c:=uY (c:=bD) (by simp[bD]) ok cnt;rw[he]at o l c
      have hb:s2="(":=by
       have z:=Bq he;unfold bD at z
       simpa using z
      subst hb;rw[Ju]at c;exact⟨fun s hs=>o s (by simp[hs]),c,by show ss2.length<=_;simp at l;omega⟩
  . split at h
    . rename_i ho
      cases h;have o:=wW (c:=tk x) (ts:=ts) ok;have l:=uX (c:=tk x) (ts:=ts) (ss:=ss);have c:=uY (c:=tk x) (Jv x) ok cnt;refine⟨fun s hs=>?_,?_,?_⟩
      . rcases List.mem_cons.mp hs with rfl|hs
        . exact .inr (.inr ho)
        . exact o s hs
      . show _=nb (x::_)+0
        rw[Jt ho];exact c
      . show(x::_:List Str).length <= _
        simp;omega
    . cases h
inductive spTree(t:Adr)(vs:List V)(H:Hp)(Q:VK)(E:XK):Prop
 |mk (a:Addr) (ws:List Str) (_:vs=[.ref a]) (_:H a=some (.lst (ws.map V.str))) (_:ws.length<=2500) (_:(∀ x∈ws,Small x)) (_:(jB ws=none->∀ H',Same H H'->E (.ref t.zj) none H')) (_:(∀ r,jB ws=some r->∀ v H',Same H H'->TrAt H' v r->Q v H'))
theorem scTree:FnScope ["words","unfinished","part_due","word"] ["words"] (aB S55):=mkS
theorem Kr(T:Txt P w K mg t):FO P w K mg base 5 t.a55 t.d55 ["words"] (spTree t):=by
 refine T.q55.F.ok2 scTree (fun cdv A outer s H vs Q E hr h=>?_);obtain⟨a,ws,rfl,ha,hl,hsm,kE,kQ⟩:=h;have nd:=scTree.nd;have G48:=Hz (base:=base) T;have G49:=HF (base:=base) T;have G50:=Ec (base:=base) T;have G54:=Eb (base:=base) T
 refine ⟨_,(ao (psl 1 nd (Mg T.zaI G48 (hr.mo) T.zaE T.q48.b aJ))
   (ao (psl 2 nd eQ)
   (ao (dU own1 rfl (cZ (pvl 0)) (pgl 3 nd)
    (aq (aV (bZ (pvl 2))
     (aq (psl 2 nd (iC (pvl 1) T.ze T.q49.e G49 (hr.mo) T.q49.b .nil bx (aa (pvl 3) aj))))
     (aq (psl 2 nd (iC (pvl 1) T.ze T.q50.e G50 (hr.mo) T.q50.b .nil bx (aa (pvl 3) aj)))))))
   (ao (aV (bZ (pvl 2))
    (aq (dF eO rfl T.zu T.zy (aa az aj)))
    aP)
   (aq (aA (dz (pvl 1) T.ze T.q54.e G54 (hr.mo) T.q54.b .nil bx))))))),?_⟩
 intro p dx hp hdx hne;refine⟨p,dx,rfl,au,fun tl sl H1 htl hsl U kp=>⟨rfl,?_⟩⟩;have s1:Same H H1:=fun b o z=>kp b o (by rw[aF (aM z hp),aF (aM z hdx)];exact z) (aM z hp)
 have fr:∀ b o,H b=some o->b≠tl/\b≠sl:=fun b o z=>by
  have z':upd (upd H dx (.own p)) p (.ins t.za dx []) b=some o:=by rw[aF (aM z hp),aF (aM z hdx)];exact z
  exact⟨aM z' htl,aM z' hsl⟩
 have kS:∀{H2 H3:Hp},Same H H2->Keep tl sl H2 H3->Same H H3:=fun s2 k3 b o z=>k3 b o (s2 b o z) (fr b o z).1 (fr b o z).2
 refine⟨_,rfl,a,rfl,⟨_,SqL.of (s1 _ _ ha)⟩,gw (K:=K) (a:=a) (xs:=ws.map V.str)
  (fun i σ H2=>∃ ts ss due v,dj (ws.take i) ([],[],true)=some (ts,ss,due)/\σ=[some (.ref a),some (.ref p),some (.bl due),v]/\UAt t.za H2 p dx tl sl ts ss/\Same H H2/\Fit i (ts,ss,due))
  ⟨[],[],true,none,rfl,rfl,U,s1,⟨(fun _ z=>nomatch z),rfl,qnr _⟩⟩ (fun i σ H2 _ ⟨_,_,_,_,_,_,_,s2,_⟩=>SqL.of (s2 _ _ ha)) ?_ ?_⟩
 . rintro i y σ H2 hi ⟨ts,ss,due,v,hrun,rfl,U2,s2,F⟩
   obtain⟨x,hx,rfl⟩:∃ x,ws[i]? = some x/\V.str x=y:=by
    rw[qgm]at hi;exact Option.map_eq_some_iff.mp hi
   have hil:i<ws.length:=(List.getElem?_eq_some_iff.mp hx).1;have hxs:Small x:=hsm x (qmg hx)
   have fl1:ts.length<=5000:=by
    have c:=F.cnt;have n:=Jw ss;have l:=F.ss;dsimp only at c l
    split at c <;> omega
   have fl2:ss.length<=5000:=by have l:=F.ss;dsimp only at l;omega
   have go:∀ st',b7 (ts,ss,due) x=some st'->dj (ws.take (i+1)) ([],[],true)=some st'/\Fit (i+1) st':=fun st' h=>by
    refine⟨?_,F.step h⟩;rw[qta,hx];show dj (ws.take i++[x]) _=_;rw[Ed,hrun];exact h
   have bad:b7 (ts,ss,due) x=none->∀ H',Same H H'->E (.ref t.zj) none H':=fun h=>kE (by unfold jB;rw[Ef hrun hx h];rfl)
   refine⟨_,rfl,_,rfl,?_⟩;cases due with
   | true =>
    refine bT ?_;refine⟨_,rfl,p,dx,_,rfl,U2.ob,lK _ _ (by decide +kernel) (by decide +kernel),_,rfl,p,dx,tl,sl,ts,ss,x,rfl,U2,hxs,fl1,fl2,?_⟩
    have st1:∀ r,¬ (x="~"\/x="(")->gq x=r->b7 (ts,ss,true) x=r.map fun r=>(r::ts,ss,false):=fun r h1 h2=>by
     unfold b7;dsimp only;rw[qp rfl,qnZ h1,h2]
    by_cases hx1:x="~"\/x="("
    . rw[qp hx1]
      intro H3 U3 k3;have g:=go (ts,x::ss,true) (by unfold b7;dsimp only;rw[qp rfl,qp hx1]);exact⟨ts,x::ss,true,_,g.1,rfl,U3,kS s2 k3,g.2⟩
    rw[qnZ hx1]
    by_cases h1:x="1"
    . rw[qp h1]
      intro H3 U3 k3;have g:=go (.yes::ts,ss,false) (st1 (some .yes) hx1 (by unfold gq;rw[qp h1]));exact⟨_,ss,false,_,g.1,rfl,U3,kS s2 k3,g.2⟩
    rw[qnZ h1]
    by_cases h0:x="0"
    . rw[qp h0]
      intro H3 U3 k3;have g:=go (.no::ts,ss,false) (st1 (some .no) hx1 (by unfold gq;rw[qnZ h1,qp h0]));exact⟨_,ss,false,_,g.1,rfl,U3,kS s2 k3,g.2⟩
    rw[qnZ h0]
    by_cases hn:isName x=true
    . rw[qp hn]
      intro H3 U3 k3;have g:=go (.nm x::ts,ss,false) (st1 (some (.nm x)) hx1 (by unfold gq;rw[qnZ h1,qnZ h0,qp hn]));exact⟨_,ss,false,_,g.1,rfl,U3,kS s2 k3,g.2⟩
    . rw[qnZ hn]
      intro H3 k3;exact bad (st1 none hx1 (by unfold gq;rw[qnZ h1,qnZ h0,qnZ hn])) H3 (kS s2 k3)
   | false =>
    refine bz ?_;refine⟨_,rfl,p,dx,_,rfl,U2.ob,lK _ _ (by decide +kernel) (by decide +kernel),_,rfl,p,dx,tl,sl,ts,ss,x,rfl,U2,F.ok,F.cnt,fl1,fl2,hxs,?_⟩;refine⟨fun e=>⟨fun H3 he k3=>bad ?_ H3 (kS s2 k3),fun H3 s3 ss3 he U3 k3=>?_⟩,fun e1 e2 H3 k3=>bad ?_ H3 (kS s2 k3),fun e1 e2 H3 U3 k3=>?_⟩
    . unfold b7;dsimp only;rw[qnZ (by decide),qp e,he]
    . have g:=go ((bc bD ts ss).1,ss3,false) (by unfold b7;dsimp only;rw[qnZ (by decide),qp e,he])
      exact⟨_,ss3,false,_,g.1,rfl,U3,kS s2 k3,g.2⟩
    . unfold b7;dsimp only;rw[qnZ (by decide),qnZ e1,qnZ e2]
    . have g:=go ((bc (tk x) ts ss).1,x::(bc (tk x) ts ss).2,true) (by unfold b7;dsimp only;rw[qnZ (by decide),qnZ e1,qp e2])
      exact⟨_,_,true,_,g.1,rfl,U3,kS s2 k3,g.2⟩
 . rintro σ H2 ⟨ts,ss,due,v,hrun,rfl,U2,s2,F⟩
   rw[qlm,List.take_length]at hrun;have hlm:(ws.map V.str).length=ws.length:=qlm _;have tf:jB ws=qQ (ts,ss,due):=by unfold jB;rw[hrun];rfl
   refine⟨_,rfl,_,rfl,?_⟩;cases due with
   |true=>exact bT ⟨by show 1<=sizeLine;decide,kE (by rw[tf];rfl) H2 s2⟩
   | false =>
    refine bz ?_
    have fl1:ts.length<=5000:=by
     have c:=F.cnt;have n:=Jw ss;have l:=F.ss;dsimp only at c l;rw[hlm]at l
     split at c <;> omega
    refine⟨_,rfl,p,dx,_,rfl,U2.ob,lK _ _ (by decide +kernel) (by decide +kernel),p,dx,tl,sl,ts,ss,rfl,U2,F.ok,F.cnt,fl1,fun H3 hn k3=>kE ?_ H3 (kS s2 k3),fun H3 v r rest h1 h2 hv k3=>kQ r ?_ v H3 (kS s2 k3) hv⟩
    . rw[tf]
      unfold qQ
      try dsimp only
      rw[qnZ (by decide)]
      split
      . rename_i h1 _;exact absurd h1 hn
      . rfl
    . rw[tf]
      unfold qQ
      try dsimp only
      rw[qnZ (by decide),h1,h2]
theorem scDepth:FnScope ["tree","layers","layer"] ["tree"] (aB S4):=mkS
theorem HJ(T:Txt P w K mg t):FO P w K mg base 3 t.a4 t.d4 ["tree"] spDepth:=by
 refine T.q4.F.ok2 scDepth (fun cdv A outer s H vs Q E hr h=>?_);obtain⟨v,tr,rfl,ht,hsz,k⟩:=h;have nd:=scDepth.nd;have G3:=wM (base:=base) T
 refine⟨_,(ao (iM (i:=1) nd rfl (by first|exact Or.inl rfl|exact Or.inr rfl) ak)
   (ao (iM (i:=2) nd rfl (by first|exact Or.inl rfl|exact Or.inr rfl) (bF (aa (pv 0) aj)))
   (ao (j8 own1 (g8 (pv 2) (fun _=>rfl))
    (ao (Cj (i:=1) nd rfl (by first|exact Or.inl rfl|exact Or.inr rfl) ak Lh)
    (aq (iM (i:=2) nd rfl (by first|exact Or.inl rfl|exact Or.inr rfl) (pQ G3 (hr.mo) rfl T.q3.m T.q3.k T.q3.b .nil aJ (aa (pv 2) aj))))))
   (aq (aA (pv 1)))))),?_⟩
 refine⟨_,rfl,(lk (by first|exact qnb rfl|simp)),fun l hl=>?_⟩
 refine⟨fun m σ H2=>∃(n:Nat)(l:Addr)(us:List V)(ts:List Tr),σ=[some v,some (.int n),some (.ref l)]/\Same H H2/\H2 l=some (.lst us)/\Paired (TrAt H2) us ts/\du ts<=100000/\n+jO ts=tr.depth/\m=du ts,
  ⟨_,0,l,[v],[tr],rfl,aD hl,au,.cons (ht.mono (aD hl).tups) .nil,?_,?_,rfl⟩,?_⟩
 . show tr.size+0<=100000
   omega
 . show 0+max tr.depth 0=tr.depth
   omega
 rintro m σ H2 ⟨n,l,us,ts,rfl,s2,hl2,hp,hz,hd,rfl⟩;refine⟨_,rfl,_,.inl ⟨us,SqL.of hl2,rfl⟩,?_⟩;cases us with
 | nil =>
  cases hp;refine bz ?_;refine⟨_,rfl,?_⟩;have hd:n+0=tr.depth:=hd;have e:n=tr.depth:=by omega
  subst e;exact k H2 s2
 | cons u us =>
  refine bT ?_;refine⟨fun σ' H'=>∃ m',m'<du ts/\∃(n:Nat)(l:Addr)(us:List V)(ts:List Tr),σ'=[some v,some (.int n),some (.ref l)]/\Same H H'/\H' l=some (.lst us)/\Paired (TrAt H') us ts/\du ts<=100000/\n+jO ts=tr.depth/\m'=du ts,fun _ _ h=>h,?_⟩;refine⟨_,rfl,_,_,rfl,rfl,_,rfl,l,u::us,ts,rfl,hl2,hp,hz,fun l' ws H' hn hl' s' hp'=>?_⟩
  have hne:ts≠[]:=by
   intro z;subst z;cases hp
  have e1:=rQ ts hne;have e2:=jy ts;have e3:0<ts.length:=List.length_pos_iff.mpr hne;exact⟨_,by omega,n+1,l',ws,ts.flatMap Tr.kids,rfl,s2.trans s',hl',hp',by omega,by omega,rfl⟩
inductive Out where
 |tree (r:Tr)|sentence|deep
def vP(x:Str):Out:=if 200<x.length then .sentence else match jB (jK x)with
 |none=>.sentence
 |some r=>if 40<r.depth then .deep else .tree r
inductive spRead(t:Adr)(vs:List V)(H:Hp)(Q:VK)(E:XK):Prop
 |mk (x) (_:vs=[.str x]) (_:x.length<=sizeLine) (_:(∀ c∈x.cps.toList,c<16 ^ 8)) (_:∀ H',Same H H'->(match vP x with | .tree r=>∀ v,TrAt H' v r->Q v H' | .sentence=>E (.ref t.zj) none H' | .deep=>E (.ref t.zB) none H'))
theorem bR(x y:Str):(x++y).cps.toList=x.cps.toList++y.cps.toList:=by
 show(x.cps++y.cps).toList=_;simp
theorem qj:∀(k:Nat)(l:List Nat),l.length=k->(∀ c∈l,c<16 ^ 8) ->
  (∀ y,y∈(fJ l).1 \/ y=(fJ l).2 -> y.length<=l.length+1/\∀ c∈y.cps.toList,c<16 ^ 8)
 | 0,l,h,_=>by
  have:l=[]:=List.length_eq_zero_iff.mp h;subst this;intro y hy;rcases hy with hy|rfl
  . exact nomatch hy
  . exact⟨qnz _,fun c hc=>nomatch hc⟩
 | k + 1,l,h,hc=>by
  have hne:l≠[]:=fun z=>by rw[z]at h;cases h
  obtain⟨l',c,rfl⟩:∃ l' c,l=l'++[c]:=⟨l.dropLast,l.getLast hne,(List.dropLast_concat_getLast hne).symm⟩
  have hk:l'.length=k:=by simpa using h
  have ih:=qj k l' hk (fun d hd=>hc d (by simp[hd]));have lb:=(lJ _ l' rfl).2;have hcc:c<16 ^ 8:=hc c (by simp)
  have one:(⟨#[c]⟩:Str).length <= (l'++[c]).length+1/\∀ d∈(⟨#[c]⟩:Str).cps.toList,d<16 ^ 8:=by
   refine⟨by show 1<=_;simp,fun d hd=>?_⟩;have:d=c:=by simpa using hd
   rw[this];exact hcc
  have nil:(Str.ofString "").length <= (l'++[c]).length+1/\∀ d∈(Str.ofString "").cps.toList,d<16 ^ 8:=⟨qnz _,fun d hd=>nomatch hd⟩
  have up:∀ y,(y∈(fJ l').1 \/ y=(fJ l').2)->y.length<=(l'++[c]).length+1/\∀ d∈y.cps.toList,d<16 ^ 8:=fun y hy=>⟨by have:=(ih y hy).1;simp;omega,(ih y hy).2⟩
  rw[jU];generalize fJ l'=st at ih lb up;obtain⟨ws,nm⟩:=st;intro y hy;unfold dw at hy
  split at hy
  . rcases hy with hy|rfl
    . exact up y (.inl hy)
    . have q:=up nm (.inr rfl)
      refine⟨?_,fun d hd=>?_⟩
      . show(nm++⟨#[c]⟩:Str).length <= _
        rw[strLen_append];have:(⟨#[c]⟩:Str).length=1:=rfl;dsimp only at lb;simp;omega
      . have hd:d∈(nm++⟨#[c]⟩:Str).cps.toList:=hd
        rw[bR]at hd;rcases List.mem_append.mp hd with hd|hd
        . exact q.2 d hd
        . exact one.2 d hd
  . rcases hy with hy|rfl
    . have hy:y∈(if c=32 then _ else _:List Str):=hy
      split at hy <;> split at hy
      . exact up y (.inl hy)
      . rcases List.mem_append.mp hy with hy|hy
        . exact up y (.inl hy)
        . exact up y (.inr (by simpa using hy))
      . rcases List.mem_append.mp hy with hy|hy
        . exact up y (.inl hy)
        . have:y=⟨#[c]⟩:=by simpa using hy
          rw[this];exact one
      . rcases List.mem_append.mp hy with hy|hy
        . rcases List.mem_append.mp hy with hy|hy
          . exact up y (.inl hy)
          . exact up y (.inr (by simpa using hy))
        . have:y=⟨#[c]⟩:=by simpa using hy
          rw[this];exact one
    . exact nil
theorem yf{x:Str}(hl:x.length<=200)(hc:∀ c∈x.cps.toList,c<16 ^ 8):(jK x).length <= 2500/\∀ y∈jK x,Small y:=by
 have hlen:(x.cps.toList++[32]).length=x.length+1:=by simp[Str.length]
 unfold jK;refine⟨?_,fun y hy=>?_⟩
 . have:=(lJ _ (x.cps.toList++[32]) rfl).1
   omega
 . have:=qj _ (x.cps.toList++[32]) rfl (fun c h=>by
    rcases List.mem_append.mp h with h|h
    . exact hc c h
    . have:c=32:=by simpa using h
      rw[this];decide) y (.inl hy)
   exact⟨by omega,this.2⟩
def tot(ts:List Tr)(ss:List Str):Nat:=(ts.map Tr.size).sum+ss.length
theorem Eg(s:Str)(ts:List Tr):((eN s ts).map Tr.size).sum <= (ts.map Tr.size).sum+1:=by
 match ts with
 |[]=>simp[eN]
 | [r] =>
  show((if s="~" then [Tr.not r]else [r]).map Tr.size).sum <= _
  split <;> simp[Tr.size]
 | r::l::rest =>
  show((if s="~" then Tr.not r::l::rest else .bin (pC s) l r::rest).map Tr.size).sum <= _
  split <;> simp[Tr.size] <;> omega
theorem pF{c:Str->Bool}{ts:List Tr}{ss:List Str}:tot (bc c ts ss).1 (bc c ts ss).2 <= tot ts ss:=by
 induction ss generalizing ts with
 |nil=>exact qnr _
 | cons s ss ih =>
  unfold bc
  split
  . refine qnt ih ?_
    have:=Eg s ts;unfold tot;simp;omega
  . exact qnr _
theorem HN{st st':Rd}{x:Str}(h:b7 st x=some st'):tot st'.1 st'.2.1<=tot st.1 st.2.1+1:=by
 obtain⟨ts,ss,due⟩:=st;unfold b7 at h;dsimp only at h
 split at h
 . split at h
   . cases h;unfold tot;simp;omega
   . unfold gq at h
     split at h
     . cases h;unfold tot;simp[Tr.size];omega
     . split at h
       . cases h;unfold tot;simp[Tr.size];omega
       . split at h
         . cases h;unfold tot;simp[Tr.size];omega
         . cases h
 . split at h
   . split at h
     . cases h
     . rename_i s2 ss2 he
       cases h;have q:=pF (c:=bD) (ts:=ts) (ss:=ss);rw[he]at q;unfold tot at q ⊢;simp at q ⊢;omega
   . split at h
     . cases h
       have q:=pF (c:=tk x) (ts:=ts) (ss:=ss);unfold tot at q ⊢;simp;omega
     . cases h
theorem Ks{ws:List Str}{st st':Rd}(h:dj ws st=some st'):tot st'.1 st'.2.1<=tot st.1 st.2.1+ws.length:=by
 induction ws generalizing st with
 |nil=>cases h;exact qnr _
 | cons x ws ih =>
  unfold dj at h;obtain⟨s1,h1,h2⟩:=Option.bind_eq_some_iff.mp h;have:=HN h1;have:=ih h2;simp;omega
theorem Eh{ws:List Str}{r:Tr}(h:jB ws=some r)(hl:ws.length<=2500):r.size<=100000:=by
 unfold jB at h;obtain⟨st,h1,h2⟩:=Option.bind_eq_some_iff.mp h;have q:=Ks h1;unfold qQ at h2
 split at h2
 . cases h2
 . split at h2
   . rename_i e1 e2
     cases h2;have z:=pF (c:=bD) (ts:=st.1) (ss:=st.2.1);rw[e2]at z;unfold tot at z q;simp at z q;omega
   . cases h2
theorem scRead:FnScope ["text","tree"] ["text"] (aB S56):=mkS
theorem Ku(T:Txt P w K mg t):FO P w K mg base 6 t.a56 t.d56 ["text"] (spRead t):=by
 refine T.q56.F.ok2 scRead (fun cdv A outer s H vs Q E hr h=>?_);obtain⟨x,rfl,hl,hc,k⟩:=h;have nd:=scRead.nd;have G45:=Hy (base:=base) T;have G55:=Kr (base:=base) T;have G4:=HJ (base:=base) T
 refine⟨_,(ao (aV (aH lC (aZ iR T.zd Bt.len (aa (pvl 0) aj)) (fG (v:=.int 200) T.zax ⟨_,rfl⟩) (aN _))
    (aq (dF eO rfl T.zu T.zy (aa az aj)))
    aP)
   (ao (psl 1 nd (aQ G55 (hr.mo) T.q55.m T.q55.k T.q55.b bx (aa (aQ G45 (hr.mo) T.q45.m T.q45.k T.q45.b aJ (aa (pvl 0) aj)) aj)))
   (ao (aV (aH lC (aQ G4 (hr.mo) T.q4.m T.q4.k T.q4.b aJ (aa (pvl 1) aj)) (fG (v:=.int 40) T.zau ⟨_,rfl⟩) (aN _))
    (aq (dF eO rfl T.zW T.zag (aa az aj)))
    aP)
   (aq (aA (pvl 1)))))),?_⟩
 refine⟨_,rfl,_,rfl,hl,_,_,rfl,rfl,_,rfl,?_⟩;unfold vP at k;refine aU (fun e=>?_) (fun e=>?_)
 . have e:(200:Int)<x.length:=qod e
   rw[qp (by omega)]at k;exact⟨by show 1<=sizeLine;decide,k H fun _ _ z=>z⟩
 have e:¬ (200:Int)<x.length:=fun z=>e (qdt z)
 rw[qnZ (by omega)]at k;obtain⟨w1,w2⟩:=yf (by omega) hc;refine⟨_,rfl,x,rfl,by omega,fun p hp=>⟨p,jK x,rfl,au,w1,w2,fun hn H1 s1=>?_,fun r hr1 v H1 s1 hv=>?_⟩⟩
 . rw[hn]at k
   exact k H1 ((aD hp).trans s1)
 . rw[hr1]at k
   refine⟨_,rfl,v,r,rfl,hv,Eh hr1 w1,fun H2 s2=>?_⟩;have k:=k H2 ((aD hp).trans (s1.trans s2));refine⟨_,_,rfl,rfl,_,rfl,?_⟩;refine aU (fun e=>?_) (fun e=>?_)
   . have e:(40:Int)<r.depth:=qod e
     dsimp only at k;rw[qp (by omega)]at k;exact⟨by show 1<=sizeLine;decide,k⟩
   . have e:¬ (40:Int)<r.depth:=fun z=>e (qdt z)
     dsimp only at k;rw[qnZ (by omega)]at k;exact⟨_,rfl,k v (hv.mono s2.tups)⟩
inductive Wr:Int->Tr->List Str->Prop
 |leaf {n:Int} {x:Str} {t:Tr} (h:gq x=some t) (h1:¬ x="~") (h2:¬ x="("):Wr n t [x]
 |not {n:Int} {t:Tr} {ws:List Str} (h:Wr 5 t ws):Wr n (.not t) ("~" :: ws)
 |bra {n:Int} {t:Tr} {ws:List Str} (h:Wr 0 t ws):Wr n t ("(" :: (ws++[(")":Str)]))
 |bin {n nl nr:Int} {o:Str} {l r:Tr} {wl wr:List Str} (ho:cD o) (hn:n<=dN o) (hl:dN o<=nl/\(o=">"->dN o<nl)) (hr:dN o<=nr/\(¬ o=">"->dN o<nr)) (h1:Wr nl l wl) (h2:Wr nr r wr):Wr n (.bin (pC o) l r) (wl++o::wr)
def Free(n:Int):List Str->Prop
 |[]=>True
 |s::_=>∀ o,cD o->n<=dN o->fM s o=false
theorem Free.more{n m:Int}(h:n<=m):∀{ss:List Str},Free n ss->Free m ss
 |[],_=>trivial
 |_::_,f=>fun o ho hn=>f o ho (Int.le_trans h hn)
def Px(n:Int)(s:Str):Prop:=s="~"\/(cD s/\n<=dN s)
theorem wX{o:Str}(h:cD o):dN o<=4:=by
 rcases h with rfl|rfl|rfl|rfl <;> decide +kernel
theorem Mz{o:Str}(h:cD o):1<=dN o:=by
 rcases h with rfl|rfl|rfl|rfl <;> decide +kernel
theorem HQ{o p:Str}(h:cD o)(h':cD p)(e:dN o=dN p):o=p:=by
 rcases h with rfl|rfl|rfl|rfl <;> rcases h' with rfl|rfl|rfl|rfl <;> first|rfl|exact absurd e (by decide +kernel)
theorem wY{s o:Str}(hs:cD s)(ho:cD o):fM s o=if s=o then !decide (o=">")else decide (dN o<dN s):=by
 unfold fM;rw[qnZ (lL hs).1,qnZ (lL hs).2]
theorem Br(o:Str):fM "~" o=true:=by
 unfold fM;rw[qnZ (by decide +kernel),qp rfl]
theorem Ei(o:Str):fM "(" o=false:=by
 unfold fM;rw[qp rfl]
theorem wZ{c:Str->Bool}{ts:List Tr}{s:Str}{ss:List Str}(h:¬ c s=true):bc c ts (s::ss)=(ts,s::ss):=by
 show(if c s=true then _ else _)=_;rw[qnZ h]
theorem uZ{c:Str->Bool}{ts:List Tr}{s:Str}{ss:List Str}(h:c s=true):bc c ts (s::ss)=bc c (eN s ts) ss:=by
 show(if c s=true then _ else _)=_;rw[qp h]
theorem Bs{o:Str}(ho:cD o){n:Int}(hn:n<=dN o){ts:List Tr}:∀{ss:List Str},Free n ss->bc (tk o) ts ss=(ts,ss)
 |[],_=>rfl
 | s::ss,f=>wZ (by
  have:tk o s=false:=f o ho hn;rw[this]
  decide)
theorem Bu(r:Tr)(rest:List Tr):eN "~" (r::rest) = .not r::rest:=by
 simp[eN]
theorem HR{o:Str}(ho:cD o)(r l:Tr)(rest:List Tr):eN o (r::l::rest) = .bin (pC o) l r::rest:=by
 simp[eN,(lL ho).2]
theorem w5(u v:List Str)(s:Rd):dj (u++v) s=(dj u s).bind (dj v):=by
 induction u generalizing s with
 |nil=>rfl
 | cons y u ih =>
  simp only[List.cons_append,dj,Option.bind_assoc]
  congr 1
  funext z
  exact ih z
theorem su {x:Str} (h:x="~"\/x="(") (ts:List Tr) (ss:List Str):b7 (ts,ss,true) x=some (ts,x::ss,true):=by
 unfold b7;rw[qp rfl,qp h]
theorem Ej {x:Str} {r:Tr} (h1:¬ x="~") (h2:¬ x="(") (h:gq x=some r) (ts:List Tr) (ss:List Str):b7 (ts,ss,true) x=some (r::ts,ss,false):=by
 unfold b7;rw[qp rfl,qnZ (fun z=>z.elim h1 h2),h]
 rfl
theorem Kv{o:Str}(ho:cD o)(ts:List Tr)(ss:List Str):b7 (ts,ss,false) o=some ((bc (tk o) ts ss).1,o::(bc (tk o) ts ss).2,true):=by
 unfold b7;have hne:¬ o=")":=by rcases ho with rfl|rfl|rfl|rfl <;> decide +kernel
 rw[qnZ qbf,qnZ hne,qp ho]
theorem Bv{ts ts':List Tr}{ss ss':List Str}{x:Str}(h:bc bD ts ss=(ts',x::ss')):b7 (ts,ss,false) ")"=some (ts',ss',false):=by
 unfold b7;rw[qnZ qbf,qp rfl]
 try dsimp only
 rw[h]
theorem MF{n:Int}{t:Tr}{ws:List Str}(h:Wr n t ws):∀(ts:List Tr)(ss:List Str),Free n ss ->
  ∃(ts':List Tr)(ps:List Str),dj ws (ts,ss,true)=some (ts',ps++ss,false)/\(∀ s∈ps,Px n s)/\∀ c:Str->Bool,(∀ s∈ps,c s=true)->bc c ts' (ps++ss)=bc c (t::ts) ss:=by
 induction h with
 | leaf h h1 h2 =>
  intro ts ss _;refine⟨_,[],?_,(fun s hs=>nomatch hs),fun c _=>rfl⟩;show(b7 _ _).bind _=_;rw[Ej h1 h2 h]
  rfl
 | @not n t ws h ih =>
  intro ts ss _;obtain⟨ts',ps,e,hp,hc⟩:=ih ts ("~" :: ss) (fun o ho hn=>by have:=wX ho;omega);refine⟨ts',ps++[("~":Str)],?_,fun s hs=>?_,fun c hcs=>?_⟩
  . show(b7 _ _).bind _=_
    rw[su (.inl rfl)];show dj ws _=_;rw[e,List.append_assoc]
    rfl
  . rcases List.mem_append.mp hs with hs|hs
    . rcases hp s hs with h|⟨ho,h⟩
      . exact .inl h
      . have:=wX ho
        omega
    . exact .inl (List.mem_singleton.mp hs)
  . rw[List.append_assoc]
    show bc c ts' (ps++("~":Str):: ss)=_;rw[hc c fun s hs=>hcs s (qal _ hs),uZ (hcs "~" (by simp)),Bu]
 | @bra n t ws h ih =>
  intro ts ss _;obtain⟨ts',ps,e,hp,hc⟩:=ih ts ("(" :: ss) (fun o _ _=>Ei o);refine⟨t::ts,[],?_,fun s hs=>(nomatch hs),fun c _=>rfl⟩;show(b7 _ _).bind _=_;rw[su (.inr rfl)];show dj (ws++[(")":Str)]) _=_;rw[w5,e];show(b7 _ _).bind _=_
  have hf:bc bD ts' (ps++("(":Str):: ss)=(t::ts,("(":Str):: ss):=by
   rw[hc bD fun s hs=>?_]
   . exact wZ (by decide +kernel)
   . rcases hp s hs with rfl|⟨ho,_⟩
     . decide +kernel
     . unfold bD
       rw[qdf (lL ho).1]
       rfl
  rw[Bv hf]
  rfl
 | @bin n nl nr o l r wl wr ho hn hl hr h1 h2 ih1 ih2 =>
  intro ts ss hf;obtain⟨tsl,psl,el,hpl,hcl⟩:=ih1 ts ss (hf.more (Int.le_trans hn hl.1))
  have tkl:∀ s∈psl,tk o s=true:=fun s hs=>by
   rcases hpl s hs with rfl|⟨hs',hb⟩
   . exact Br o
   . show fM s o=true
     rw[wY hs' ho]
     by_cases e:s=o
     . rw[qp e,qdf fun z=>?_]
       . rfl
       . have:=hl.2 z
         rw[e]at hb;omega
     . rw[qnZ e]
       refine qdt ?_;have h1:=hl.1;have h2:dN s≠dN o:=fun z=>e (HQ hs' ho z)
       omega
  have fl:bc (tk o) tsl (psl++ss)=(l::ts,ss):=by rw[hcl _ tkl,Bs ho hn hf]
  obtain⟨tsr,psr,er,hpr,hcr⟩:=ih2 (l::ts) (o::ss) (fun p hp hb=>by
   rw[wY ho hp]
   by_cases e:o=p
   . rw[qp e]
     by_cases e2:p=">"
     . rw[qdt e2];rfl
     . have:=hr.2 (by rw[e];exact e2)
       rw[e]at this;omega
   . rw[qnZ e]
     refine qdf ?_;have h1:=hr.1
     omega)
  refine⟨tsr,psr++[o],?_,fun s hs=>?_,fun c hcs=>?_⟩
  . rw[w5,el]
    show(b7 _ _).bind _=_;rw[Kv ho,fl];show dj wr _=_;rw[er,List.append_assoc]
    rfl
  . rcases List.mem_append.mp hs with hs|hs
    . rcases hpr s hs with h|⟨h,hb⟩
      . exact .inl h
      . exact .inr ⟨h,by have:=hr.1;omega⟩
    . rw[List.mem_singleton.mp hs]
      exact .inr ⟨ho,hn⟩
  . rw[List.append_assoc]
    show bc c tsr (psr++o::ss)=_;rw[hcr c fun s hs=>hcs s (qal _ hs),uZ (hcs o (by simp)),HR ho]
theorem Kw{n:Int}{t:Tr}{ws:List Str}(h:Wr n t ws):jB ws=some t:=by
 obtain⟨ts',ps,e,hp,hc⟩:=MF h [] [] trivial;unfold jB;rw[e];show qQ (ts',ps++[],false)=some t
 have hf:=hc bD fun s hs=>by
  rcases hp s hs with rfl|⟨ho,_⟩
  . decide +kernel
  . unfold bD
    rw[qdf (lL ho).1]
    rfl
 unfold qQ;rw[qnZ qbf]
 try dsimp only
 rw[hf]
 rfl
def flush(st:List Str×Str):List Str:=if st.2="" then st.1 else st.1++[st.2]
def dm(cs:List Nat)(ws:List Str):Prop:=∀ acc:List Str,flush (cs.foldl dw (acc,""))=acc++ws
theorem w6{x:Str}{ws:List Str}(h:dm x.cps.toList ws):jK x=ws:=by
 unfold jK;rw[jU];have h:=h [];show(dw (List.foldl dw ([],"") x.cps.toList) 32).1=ws;generalize List.foldl dw ([],"") x.cps.toList=st at h;unfold dw;rw[qnZ (by decide),qp rfl];exact h
def isSign(c:Nat):Prop:=cV c=false/\¬ c=32
theorem jW{c:Nat}(h:isSign c)(st:List Str×Str):dw st c=(flush st++[⟨#[c]⟩],("":Str)):=by
 unfold dw flush;rw[qnZ (by rw[h.1];decide),qnZ h.2]
theorem qm(st:List Str×Str):dw st 32=(flush st,("":Str)):=by
 unfold dw flush;rw[qnZ (by decide),qp rfl]
theorem gk(l:List Str):flush (l,"")=l:=qp rfl
theorem Ek{c:Nat}{cs:List Nat}{ws:List Str}(h:isSign c)(hs:dm cs ws):dm (c::cs) (⟨#[c]⟩:: ws):=fun acc=>by
 rw[List.foldl_cons,jW h,gk,hs];simp
theorem Ky{c:Nat}{cs:List Nat}{ws:List Str}(h:isSign c)(hs:dm cs ws):dm (cs++[c]) (ws++[⟨#[c]⟩]):=fun acc=>by
 rw[List.foldl_append,List.foldl_cons,List.foldl_nil,jW h,gk,hs];simp
theorem yS{c:Nat}(h:isSign c):dm [c] [⟨#[c]⟩]:=fun acc=>by
 rw[List.foldl_cons,List.foldl_nil,jW h,gk,gk]
theorem MJ{c:Nat}{cs ds:List Nat}{ws vs:List Str}(hc:isSign c)(h:dm cs ws)(hd:dm ds vs):dm (cs++c::ds) (ws++⟨#[c]⟩:: vs):=fun acc=>by
 rw[List.foldl_append,List.foldl_cons,jW hc,h,hd];simp
theorem HS{cs:List Nat}{ws:List Str}(h:dm cs ws):dm (32::cs) ws:=fun acc=>by
 rw[List.foldl_cons,qm,gk,h]
theorem El{cs:List Nat}{ws:List Str}(h:dm cs ws):dm (cs++[32]) ws:=fun acc=>by
 rw[List.foldl_append,List.foldl_cons,List.foldl_nil,qm,gk,h]
theorem pG(acc:List Str):∀(cs:List Nat)(y:Str),(∀ c∈cs,cV c=true)->cs.foldl dw (acc,y)=(acc,⟨(y.cps.toList++cs).toArray⟩)
 | [],y,_=>by
  show(acc,y)=_;rw[List.append_nil]
 | c::cs,y,h=>by
  rw[List.foldl_cons]
  have e:dw (acc,y) c=(acc,y++⟨#[c]⟩):=by
   unfold dw;rw[qp (h c qms)]
  rw[e,pG acc cs _ fun d hd=>h d (qmm _ hd),bR];simp
theorem Kz{x:Str}(h:isName x=true):dm x.cps.toList [x]:=fun acc=>by
 unfold isName at h;obtain⟨h1,h2⟩:=Bool.and_eq_true_iff.mp h;obtain⟨h1,_⟩:=Bool.and_eq_true_iff.mp h1;have h1:=qod h1;rw[pG acc x.cps.toList "" fun c hc=>List.all_eq_true.mp h2 c hc];have e0:("":Str).cps.toList=[]:=by decide +kernel
 have e:(⟨(("":Str).cps.toList++x.cps.toList).toArray⟩:Str)=x:=by
  rw[e0];simp
 rw[e];unfold flush;rw[qnZ fun z=>?_];have z:x="":=z;rw[z]at h1;exact absurd h1 (by decide +kernel)
theorem xf:("(":Str)=⟨#[40]⟩:=by decide +kernel
theorem yU:(")":Str)=⟨#[41]⟩:=by decide +kernel
theorem xg:("~":Str)=⟨#[126]⟩:=by decide +kernel
theorem nq:("1":Str)=⟨#[49]⟩:=by decide +kernel
theorem jL:("0":Str)=⟨#[48]⟩:=by decide +kernel
theorem KC:(" ":Str)=⟨#[32]⟩:=by decide +kernel
theorem pY{x:Str}(h:isName x=true){c:Nat}(hc:cV c=false):¬ x=⟨#[c]⟩:=fun z=>by
 rw[z]at h;unfold isName at h;have h2:=(Bool.and_eq_true_iff.mp h).2;have:cV c=true:=List.all_eq_true.mp h2 c (by simp);rw[hc]at this;cases this
theorem Em{x:Str}(h:isName x=true):gq x=some (.nm x):=by
 unfold gq;rw[qnZ (by rw[nq];exact pY h (by decide)),qnZ (by rw[jL];exact pY h (by decide)),qp h]
theorem lM{x:Str}(h:IsName x):isName x=true:=by
 have e:x.length=x.cps.toList.length:=Array.length_toList.symm;unfold isName;rw[qdt (show(1:Int)<=(x.length:Int)by have:=h.pos;omega),qdt (show(x.length:Int)<=8 by have:=h.le;omega)];refine List.all_eq_true.mpr fun c hc=>?_
 have:=h.ok c hc;unfold cV;rw[qdt this.1,qdt this.2]
 rfl
def jo(cs:List Nat):Str:=⟨cs.toArray⟩
theorem sy(cs:List Nat):(jo cs).cps.toList=cs:=by simp[jo]
theorem jM{x y:Str}(h:x.cps.toList=y.cps.toList):x=y:=by
 cases x;cases y;exact congrArg Str.mk (Array.toList_inj.mp h)
def cI(x:Str):Str:=jo (cJ 32 x.cps.toList)
def bJ(x:Str):Str:=jo ((cu 32 x.cps.toList).dropWhile (· == 32))
theorem nA:(" ":Str)=⟨#[32]⟩:=by decide +kernel
inductive spFirst(vs:List V)(H:Hp)(Q:VK)(E:XK):Prop
 |mk (x) (_:vs=[.str x]) (_:x.length<=sizeLine) (_:∀ H',(∀ b o,H b=some o->H' b=some o)->Q (.str (cI x)) H')
inductive spBehindF(vs:List V)(H:Hp)(Q:VK)(E:XK):Prop
 |mk (x) (_:vs=[.str x]) (_:x.length<=sizeLine) (_:∀ H',(∀ b o,H b=some o->H' b=some o)->Q (.str (bJ x)) H')
theorem pH(c:Nat):∀ l:List Nat,(cJ c l).length <= l.length
 |[]=>qnr _
 | d::r=>by
  have:=pH c r;show(if d=c then []else d::cJ c r).length <= r.length+1
  split
  . exact qnz _
  . show(cJ c r).length+1<=_
    omega
theorem lN(c:Nat):∀ l:List Nat,(cu c l).length <= l.length
 |[]=>qnr _
 | d::r=>by
  have:=lN c r;show(if d=c then r else cu c r).length <= r.length+1
  split
  . omega
  . omega
def gM(c:Nat):Bool:=decide (48<=c) && decide (c<=57)
def gr(x:Str):Bool:=(decide (1<=(x.length:Int)) && decide ((x.length:Int)<=30)) && x.cps.toList.all gM && !(decide (x.cps.toList.head? = some 48) && !decide (x="0"))
def qR(x:Str):V:=if gr x=true then .int (fX x.cps.toList:Nat)else .non
inductive spFig(vs:List V)(H:Hp)(Q:VK)(E:XK):Prop
 |mk (c) (_:vs=[.str ⟨#[c]⟩]) (_:Q (.bl (gM c)) H)
inductive spNumIn(vs:List V)(H:Hp)(Q:VK)(E:XK):Prop
 |mk (x) (_:vs=[.str x]) (_:x.length<=sizeLine) (_:∀ H',(∀ b o,H b=some o->H' b=some o)->Q (qR x) H')
theorem le_0(c:Nat):(!decide ((⟨#[c]⟩:Str).cps.toList<(Str.ofString "0").cps.toList))=decide (48<=c):=by
 show(!decide ([c] < [48]))=_;rw[sr]
 by_cases h:48<=c
 . simp[h]
 . simp[h];omega
theorem Py(c:Nat):(!decide ((Str.ofString "9").cps.toList<(⟨#[c]⟩:Str).cps.toList))=decide (c<=57):=by
 show(!decide ([57] < [c]))=_;rw[sr]
 by_cases h:c<=57
 . simp[h]
 . simp[h];omega
theorem scFirst:FnScope ["text"] ["text"] (aB S59):=mkS
theorem nC(T:Txt P w K mg t):FO P w K mg base 1 t.a59 t.d59 ["text"] spFirst:=by
 refine T.q59.F.ok2 scFirst (fun cdv A outer s H vs Q E hr h=>?_);obtain⟨x,rfl,hx,k⟩:=h;have nd:=scFirst.nd;refine⟨_,(aq (aA (pix aK (bW PySem.F.plainAttrs_str PySem.F.slot_str_partition PySem.F.type_str_partition kj (pvl 0) (aa az aj)) ak))),?_⟩;refine⟨_,rfl,rfl,x,_,32,rfl,rfl,nA,hx,fun p b hp=>⟨p,_,0,_,rfl,rfl,SqT.of au,rfl,?_⟩⟩;exact k _ (fun b' o e=>by rw[aF (aM e hp)];exact e)
theorem scBehindF:FnScope ["text"] ["text"] (aB S60):=mkS
theorem nD(T:Txt P w K mg t):FO P w K mg base 1 t.a60 t.d60 ["text"] spBehindF:=by
 refine T.q60.F.ok2 scBehindF (fun cdv A outer s H vs Q E hr h=>?_);obtain⟨x,rfl,hx,k⟩:=h;have nd:=scBehindF.nd;refine⟨_,(aq (aA (bW PySem.F.plainAttrs_str PySem.F.slot_str_lstrip PySem.F.type_str_lstrip Bc (pix aK (bW PySem.F.plainAttrs_str PySem.F.slot_str_partition PySem.F.type_str_partition kj (pvl 0) (aa az aj)) ak) (aa az aj)))),?_⟩;refine⟨_,rfl,rfl,x,_,32,rfl,rfl,nA,hx,fun p b hp=>⟨p,_,2,_,rfl,rfl,SqT.of au,rfl,rfl,_,_,rfl,rfl,?_,?_⟩⟩
 . have h1:=lN 32 x.cps.toList
   have h2:x.length=x.cps.toList.length:=Array.length_toList.symm;show(cu 32 x.cps.toList).toArray.size<=sizeLine;rw[List.size_toArray];omega
 . have e:Txt.lstripChars ⟨(cu 32 x.cps.toList).toArray⟩ " "=bJ x:=by
    refine jM ?_;rw[nA,Gw];unfold bJ;rw[sy]
   rw[e];exact k _ (fun b' o e=>by rw[aF (aM e hp)];exact e)
theorem scFig:FnScope ["sign"] ["sign"] (aB S61):=mkS
theorem MK(T:Txt P w K mg t):FO P w K mg base 1 t.a61 t.d61 ["sign"] spFig:=by
 refine T.q61.F.ok2 scFig (fun cdv A outer s H vs Q E hr h=>?_);obtain⟨c,rfl,k⟩:=h;have nd:=scFig.nd;refine⟨_,(aq (aA (qz lF lF az (pvl 0) az))),?_⟩;refine⟨_,rfl,_,_,rfl,rfl,_,rfl,?_⟩;rw[le_0];unfold gM at k;cases h:decide (48<=c)with
 | false =>
  rw[h]at k;rw[qnZ qbf];exact k
 | true =>
  rw[h]at k;rw[qp rfl];refine⟨_,_,rfl,rfl,?_⟩;rw[Py];exact k
theorem aY{H:Hp}{p:Addr}{o:HO}(hp:H p=none):∀ b u,H b=some u->(upd H p o) b=some u:=fun b u q=>by
 rw[aF (fun z=>by rw[z,hp]at q;cases q)];exact q
def iV(x:Str):V:=if gr x=true then(if fX x.cps.toList=0 then .non else .int (fX x.cps.toList:Nat))else .non
def Pz:V->V
 | .int i=>.int (-i)
 |v=>v
def lO(x:Str):V:=if Txt.startswith x "-"=true then Pz (iV (dC x (some 1) none))else qR x
inductive spNum0(vs:List V)(H:Hp)(Q:VK)(E:XK):Prop
 |mk (x) (_:vs=[.str x]) (_:x.length<=sizeLine) (_:∀ H',(∀ b o,H b=some o->H' b=some o)->Q (iV x) H')
inductive spLeanIn(vs:List V)(H:Hp)(Q:VK)(E:XK):Prop
 |mk (x) (_:vs=[.str x]) (_:x.length<=sizeLine) (_:∀ H',(∀ b o,H b=some o->H' b=some o)->Q (lO x) H')
theorem scNumIn:FnScope ["word"] ["word"] (aB S62):=mkS
theorem xj(T:Txt P w K mg t):FO P w K mg base 2 t.a62 t.d62 ["word"] spNumIn:=by
 have G61:=MK (base:=base) T;refine T.q62.F.ok2 scNumIn (fun cdv A outer s H vs Q E hr h=>?_);obtain⟨x,rfl,hx,k⟩:=h;have nd:=scNumIn.nd
 refine⟨_,(ao (aV (PW.pt (gm (cQ (vZ pO pO ak (aZ iR T.zd Bt.len (aa (pvl 0) aj)) (fG (v:=.int 30) T.zaz ⟨_,rfl⟩))) (gP (cQ (bZ (aZ (lE rfl) T.zF Bt.all (aa (cj rfl ["sign"] [none] (wF (pvl 0)) (by kernel_rfl) (fun _ _ _ _ _ _=>(pgl 0 (ndS (l:=["sign"])))) (fun _ _ _ _ _ _=>cN) (fun _ _ _ _ _ _=>(aQ G61 (hr.mo) T.q61.m T.q61.k T.q61.b aJ (aa (pvl 0) aj)))) aj)))))))
    (aq (aA bK))
    aP)
   (ao (aV (PW.pt (jC (aH aW (pix oE (pvl 0) ak) az (aN _)) (jf (aH gn (pvl 0) az (aN _)))))
    (aq (aA bK))
    aP)
   (aq (aA (dh Dr T.zL Bt.int (aa (pvl 0) aj)))))),?_⟩
 have hxl:x.length=x.cps.toList.length:=Array.length_toList.symm
 have fin:∀ H',(∀ b o,H b=some o->H' b=some o)->gr x=false->Q .non H':=fun H' s' e=>by
  have:=k H' s';unfold qR at this;rw[e,qnZ qbf]at this;exact this
 have sid:∀ b o,H b=some o->H b=some o:=fun _ _ z=>z
 refine⟨_,rfl,_,rfl,hx,_,_,rfl,rfl,_,rfl,?_⟩;refine aU (fun e1=>?_) (fun e1=>⟨_,rfl,bT (fin H sid (by simp at e1;simp[gr];omega))⟩);have e1:=qod e1;refine⟨_,_,rfl,rfl,_,rfl,?_⟩;cases e2:decide ((x.length:Int)<=30)with
 |false=>exact bT (fin H sid (by simp at e2;simp[gr];omega))
 |true =>
 refine bz ?_;refine⟨_,rfl,x,rfl,oJ (fun c=>.bl (gM c)) hx (fun c R _ hR=>⟨True.intro,_,rfl,c,rfl,hR⟩) fun p hp=>?_⟩;have s1:=aY (o:=.lst (x.cps.toList.map fun c=>V.bl (gM c))) hp;refine⟨p,x.cps.toList.map gM,rfl,?_,?_⟩
 . refine SqL.of ?_
   rw[au,List.map_map];rfl
 generalize upd H p (.lst (x.cps.toList.map fun c=>V.bl (gM c)))=H1 at s1 ⊢;have eall:(x.cps.toList.map gM).all id=x.cps.toList.all gM:=by simp
 rw[eall];cases e3:x.cps.toList.all gM with
 |false=>exact⟨_,rfl,bT (fin H1 s1 (by simp only[gr,e3];simp))⟩
 |true =>
 refine⟨_,rfl,bz ?_⟩;have e2':=qod e2
 obtain⟨c0,r,hc⟩:∃ c0 r,x.cps.toList=c0::r:=by
  cases h:x.cps.toList with
  |nil=>rw[h]at hxl;have:x.length=0:=hxl;omega
  |cons a b=>exact⟨a,b,rfl⟩
 have hfig:∀ c∈c0::r,48<=c/\c<=57:=fun c hc'=>by
  have:=List.all_eq_true.mp e3 c (by rw[hc];exact hc');unfold gM at this
  simpa using this
 have hat:x.cps[0]? = some c0:=by rw[<- Array.getElem?_toList,hc];rfl
 have e48:("0":Str)=⟨#[48]⟩:=by decide +kernel
 have done:(49<=c0/\c0<=57\/c0=48/\r=[])->gr x=true->Q (.int (fX (c0::r):Nat)) H1:=fun _ e=>by
  have:=k H1 s1;unfold qR at this;rw[e,qp rfl,hc]at this;exact this
 have hr600:r.length<600:=by
  rw[hc]at hxl;have:x.length=r.length+1:=hxl;omega
 have isn:gr x = !(decide (c0=48) && !decide (x="0")):=by
  unfold gr;rw[qdt e1,qdt e2',e3,hc];simp
 have hat:atI x.cps.toList 0=some c0:=b8 (j:=0) (by rw[hc];rfl)
 have eq0:decide (V.str ⟨#[c0]⟩=V.str ("0":Str))=decide (c0=48):=by
  by_cases e:c0=48
  . rw[qdt e,qdt (by rw[e48,e])]
  . rw[qdf e,qdf (fun z=>e (by
     have h:=V.str.inj z;rw[e48]at h;have h2:=congrArg (fun y:Str=>y.cps.toList) h
     exact(List.cons.inj h2).1))]
 have eqx:decide (V.str x=V.str ("0":Str))=decide (x="0"):=by
  by_cases e:x="0"
  . rw[qdt e,qdt (by rw[e])]
  . rw[qdf e,qdf (fun z=>e (V.str.inj z))]
 have hlast:gr x=true->∃(x':Str)(c0':Nat)(r':List Nat),[V.str x]=[V.str x']/\x'.cps.toList=c0'::r'/\(49<=c0'/\c0'<=57\/c0'=48/\r'=[])/\(∀ c∈r',48<=c/\c<=57)/\r'.length<600/\Q (.int (fX (c0'::r'):Nat)) H1:=fun e=>by
  have h0:=hfig c0 qms
  have hor:49<=c0/\c0<=57\/c0=48/\r=[]:=by
   by_cases e4:c0=48
   . refine .inr ⟨e4,?_⟩
     rw[isn,qdt e4]at e;have e5:x="0":=by simpa using e
     rw[e5,e48]at hc;have hc:[48]=c0::r:=hc;exact(List.cons.inj hc).2.symm
   . exact .inl (by omega)
  exact⟨x,c0,r,rfl,hc,hor,fun c hc'=>hfig c (qmm _ hc'),hr600,done hor e⟩
 refine⟨_,rfl,x,0,c0,rfl,rfl,hx,hat,rfl,_,rfl,?_⟩;rw[eq0];cases e4:decide (c0=48)with
 |false=>exact bz (bz ⟨_,rfl,hlast (by rw[isn,e4];rfl)⟩)
 | true =>
  refine bT ⟨_,rfl,rfl,_,rfl,?_⟩;rw[eqx];cases e5:decide (x="0")with
  |true=>exact bz ⟨_,rfl,hlast (by rw[isn,e4,e5];rfl)⟩
  |false=>exact bT (fin H1 s1 (by rw[isn,e4,e5];rfl))
theorem scNum0:FnScope ["word","number"] ["word"] (aB S63):=mkS
theorem yV(T:Txt P w K mg t):FO P w K mg base 3 t.a63 t.d63 ["word"] spNum0:=by
 have G62:=xj (base:=base) T;refine T.q63.F.ok2 scNum0 (fun cdv A outer s H vs Q E hr h=>?_);obtain⟨x,rfl,hx,k⟩:=h;have nd:=scNum0.nd
 refine⟨_,(ao (psl 1 nd (aQ G62 (hr.mo) T.q62.m T.q62.k T.q62.b aJ (aa (pvl 0) aj)))
   (aq (aA (fC (aH aW (pvl 1) ak (aN _)) bK (pvl 1))))),?_⟩
 refine⟨_,rfl,x,rfl,hx,fun H1 s1=>?_⟩;have k1:=k H1 s1;unfold iV at k1;unfold qR;cases h:gr x with
 | false =>
  rw[h,qnZ qbf]at k1;rw[qnZ qbf];exact⟨_,rfl,rfl,_,rfl,aU (fun z=>k1) (fun _=>⟨_,rfl,k1⟩)⟩
 | true =>
  rw[h,qp rfl]at k1;rw[qp rfl];refine⟨_,rfl,rfl,_,rfl,aU (fun z=>?_) (fun z=>?_)⟩
  . have z:=V.int.inj (qod z)
    rw[qp (by omega)]at k1;exact k1
  . have z:¬ fX x.cps.toList=0:=fun e=>z (qdt (by rw[e];rfl))
    rw[qnZ z]at k1;exact⟨_,rfl,k1⟩
theorem scLeanIn:FnScope ["word","number"] ["word"] (aB S64):=mkS
theorem En(T:Txt P w K mg t):FO P w K mg base 4 t.a64 t.d64 ["word"] spLeanIn:=by
 have G62:=xj (base:=base) T;have G63:=yV (base:=base) T;refine T.q64.F.ok2 scLeanIn (fun cdv A outer s H vs Q E hr h=>?_);obtain⟨x,rfl,hx,k⟩:=h;have nd:=scLeanIn.nd
 refine⟨_,(ao (aV (cQ (bZ (bW PySem.F.plainAttrs_str PySem.F.slot_str_startswith PySem.F.type_str_startswith vC (pvl 0) (aa az aj))))
    (aq (aA (aQ G62 (hr.mo) T.q62.m T.q62.k T.q62.b aJ (aa (pvl 0) aj))))
    aP)
   (ao (psl 1 nd (aQ G63 (hr.mo) T.q63.m T.q63.k T.q63.b aJ (aa (ie wy (pvl 0) (iD ak) jY) aj)))
   (aq (aA (fC (aH gR (pvl 1) bK (aN _)) bK (lA jD (pvl 1))))))),?_⟩
 refine⟨_,rfl,rfl,x,_,rfl,rfl,_,rfl,?_⟩;unfold lO at k;cases h:Txt.startswith x "-" with
 | false =>
  rw[h,qnZ qbf]at k;exact bT ⟨_,rfl,x,rfl,hx,k⟩
 | true =>
  rw[h,qp rfl]at k;refine bz ?_;refine⟨_,rfl,_,rfl,x,rfl,hx,dC x (some 1) none,rfl,qnt (yC x _ _) hx,fun H1 s1=>?_⟩;have k1:=k H1 s1;unfold iV at k1 ⊢;cases h2:gr (dC x (some 1) none)with
  | false =>
   rw[h2,qnZ qbf]at k1;rw[qnZ qbf];exact⟨_,rfl,rfl,_,rfl,aU (fun _=>k1) (fun z=>absurd (qdt rfl) z)⟩
  | true =>
   rw[h2,qp rfl]at k1;rw[qp rfl]
   by_cases h3:fX (dC x (some 1) none).cps.toList=0
   . rw[qp h3]at k1 ⊢
     exact⟨_,rfl,rfl,_,rfl,aU (fun _=>k1) (fun z=>absurd (qdt rfl) z)⟩
   . rw[qnZ h3]at k1 ⊢
     exact⟨_,rfl,rfl,_,rfl,aU (fun z=>absurd (qod z) (by intro z;cases z)) (fun _=>⟨_,rfl,_,rfl,k1⟩)⟩
def gb:Nat:=1000000
theorem jq:gb+10<=sizeLine:=by decide
def Eo(H:Hp)(v pay:V)(ts:List Str):Prop:=∃ q l,v = .ref q/\H q=some (.tup [pay,.ref l])/\H l=some (.lst (ts.map V.str))
def Jx(H:Hp)(v:V):Option (V×List Str)->Prop
 |none=>v = .non
 |some (pay,ts)=>Eo H v pay ts
def spF(f:Str->Option (V×List Str)):Sp:=fun vs H Q _=>∃ x,vs=[.str x]/\x.length<=gb/\∀ r H',(∀ b o,H b=some o->H' b=some o)->Jx H' r (f x)->Q r H'
def Bw(v:V)(ts:List Str):Option (V×List Str):=if v = .non then none else some (v,ts)
def vQ(x:Str):Option (V×List Str):=some (.non,[x])
def sE(x:Str):Option (V×List Str):=if x="" then some (.non,[])else none
def Bx(x:Str):Option (V×List Str):=if isName x=true then some (.str x,[])else none
def sG(x:Str):Option (V×List Str):=Bw (iV (cI x)) [bJ x]
def sH(x:Str):Option (V×List Str):=Bw (lO (cI x)) [bJ x]
inductive spNumbered(vs:List V)(H:Hp)(Q:VK)(E:XK):Prop
 |mk (v x) (_:vs=[v,.str x]) (_:(v = .non \/ ∃ i,v = .int i)) (_:x.length<=gb) (_:∀ r H',(∀ b o,H b=some o->H' b=some o)->Jx H' r (Bw v [bJ x])->Q r H')
theorem bI{H H1 H2:Hp}(s:∀ b o,H b=some o->H1 b=some o)(s':∀ b o,H1 b=some o->H2 b=some o):∀ b o,H b=some o->H2 b=some o:=fun b o e=>s' b o (s b o e)
theorem u5(x:Str):(cI x).length <= x.length:=by
 have h1:=pH 32 x.cps.toList;have h2:x.length=x.cps.toList.length:=Array.length_toList.symm;show(cJ 32 x.cps.toList).toArray.size<=_;rw[List.size_toArray];omega
theorem u6(x:Str):iV x = .non \/ ∃ i,iV x = .int i:=by
 unfold iV
 split
 . split
   . exact .inl rfl
   . exact .inr ⟨_,rfl⟩
 . exact .inl rfl
theorem Ep(x:Str):lO x = .non \/ ∃ i,lO x = .int i:=by
 unfold lO
 split
 . rcases u6 (dC x (some 1) none)with e|⟨i,e⟩
   . rw[e];exact .inl rfl
   . rw[e];exact .inr ⟨_,rfl⟩
 . unfold qR
   split
   . exact .inr ⟨_,rfl⟩
   . exact .inl rfl
theorem scSentF:FnScope ["text"] ["text"] (aB S69):=mkS
theorem xm(T:Txt P w K mg t):FO P w K mg base 1 t.a69 t.d69 ["text"] (spF vQ):=by
 refine T.q69.F.ok1 scSentF (fun vs H Q E h=>by obtain⟨x,rfl,_⟩:=h;rfl) (fun cdv A outer s H vs Q E hr h=>?_);obtain⟨x,rfl,hx,k⟩:=h;have nd:=scSentF.nd;refine⟨_,(aq (aA (bw (aa bK (aa (bF (aa (pvl 0) aj)) aj))))),?_⟩;refine⟨_,rfl,(by show 1<=sizeLine;decide),fun l hl=>⟨(by show 2<=sizeLine;decide),fun q hq=>?_⟩⟩;exact k _ _ (bI (aY hl) (aY hq)) ⟨q,l,rfl,au,aY hq _ _ au⟩
theorem scBareF:FnScope ["text"] ["text"] (aB S73):=mkS
theorem qU(T:Txt P w K mg t):FO P w K mg base 1 t.a73 t.d73 ["text"] (spF sE):=by
 refine T.q73.F.ok1 scBareF (fun vs H Q E h=>by obtain⟨x,rfl,_⟩:=h;rfl) (fun cdv A outer s H vs Q E hr h=>?_);obtain⟨x,rfl,hx,k⟩:=h;have nd:=scBareF.nd;refine⟨_,(aq (aA (fC (aH aW (pvl 0) az (aN _)) (bw (aa bK (aa (bF aj) aj))) bK))),?_⟩;unfold sE at k;refine⟨_,rfl,rfl,_,rfl,aU (fun z=>?_) (fun z=>?_)⟩
 . rw[qp (V.str.inj (qod z))]at k
   refine⟨(by show 0<=sizeLine;decide),fun l hl=>⟨(by show 2<=sizeLine;decide),fun q hq=>?_⟩⟩;exact k _ _ (bI (aY hl) (aY hq)) ⟨q,l,rfl,au,aY hq _ _ au⟩
 . rw[qnZ (fun e=>z (qdt (by rw[e])))]at k
   exact k _ _ (fun _ _ e=>e) rfl
theorem scKeepF:FnScope ["text"] ["text"] (aB S71):=mkS
theorem HW(T:Txt P w K mg t):FO P w K mg base 3 t.a71 t.d71 ["text"] (spF Bx):=by
 have G1:=pB (base:=base) T;refine T.q71.F.ok1 scKeepF (fun vs H Q E h=>by obtain⟨x,rfl,_⟩:=h;rfl) (fun cdv A outer s H vs Q E hr h=>?_);obtain⟨x,rfl,hx,k⟩:=h;have nd:=scKeepF.nd;refine⟨_,(aq (aA (fC (bZ (aQ G1 (hr.mo) T.q1.m T.q1.k T.q1.b aJ (aa (pvl 0) aj))) (bw (aa (pvl 0) (aa (bF aj) aj))) bK))),?_⟩;unfold Bx at k;refine⟨_,rfl,x,rfl,qnt hx (by decide),fun H1 s1=>⟨_,rfl,?_⟩⟩;cases h:isName x with
 | true =>
  rw[h,qp rfl]at k;refine bT ⟨_,rfl,(by show 0<=sizeLine;decide),fun l hl=>⟨(by show 2<=sizeLine;decide),fun q hq=>?_⟩⟩;exact k _ _ (bI s1 (bI (aY hl) (aY hq))) ⟨q,l,rfl,au,aY hq _ _ au⟩
 | false =>
  rw[h,qnZ qbf]at k;exact bz (k _ _ s1 rfl)
theorem scNumbered:FnScope ["number","text"] ["number","text"] (aB S66):=mkS
theorem qw(T:Txt P w K mg t):FO P w K mg base 2 t.a66 t.d66 ["number","text"] spNumbered:=by
 have G60:=nD (base:=base) T;refine T.q66.F.ok2 scNumbered (fun cdv A outer s H vs Q E hr h=>?_);obtain⟨v,x,rfl,hv,hx,k⟩:=h;have nd:=scNumbered.nd;refine⟨_,(aq (aA (fC (aH gR (pvl 0) bK (aN _)) bK (bw (aa (pvl 0) (aa (bF (aa (aQ G60 (hr.mo) T.q60.m T.q60.k T.q60.b aJ (aa (pvl 1) aj)) aj)) aj)))))),?_⟩;unfold Bw at k;rcases hv with rfl|⟨i,rfl⟩
 . rw[qp rfl]at k
   exact⟨_,rfl,rfl,_,rfl,aU (fun _=>k _ _ (fun _ _ e=>e) rfl) (fun z=>absurd (qdt rfl) z)⟩
 . rw[qnZ (by intro z;cases z)]at k
   refine⟨_,rfl,rfl,_,rfl,aU (fun z=>absurd (qod z) (by intro z;cases z)) (fun _=>?_)⟩;refine⟨_,rfl,_,rfl,x,rfl,qnt hx (by decide),fun H1 s1=>⟨(by show 1<=sizeLine;decide),fun l hl=>⟨(by show 2<=sizeLine;decide),fun q hq=>?_⟩⟩⟩;exact k _ _ (bI s1 (bI (aY hl) (aY hq))) ⟨q,l,rfl,au,aY hq _ _ au⟩
theorem scTakeF:FnScope ["text"] ["text"] (aB S67):=mkS
theorem Ia(T:Txt P w K mg t):FO P w K mg base 4 t.a67 t.d67 ["text"] (spF sG):=by
 have G63:=yV (base:=base) T;have G59:=nC (base:=base) T;have G66:=qw (base:=base) T;refine T.q67.F.ok1 scTakeF (fun vs H Q E h=>by obtain⟨x,rfl,_⟩:=h;rfl) (fun cdv A outer s H vs Q E hr h=>?_);obtain⟨x,rfl,hx,k⟩:=h;have nd:=scTakeF.nd;refine⟨_,(aq (aA (aQ G66 (hr.mo) T.q66.m T.q66.k T.q66.b aJ (aa (aQ G63 (hr.mo) T.q63.m T.q63.k T.q63.b aJ (aa (aQ G59 (hr.mo) T.q59.m T.q59.k T.q59.b aJ (aa (pvl 0) aj)) aj)) (aa (pvl 0) aj))))),?_⟩;have hfl:=u5 x;refine⟨_,rfl,x,rfl,qnt hx (by decide),fun H1 s1=>⟨cI x,rfl,qnt hfl (qnt hx (by decide)),fun H2 s2=>?_⟩⟩;exact⟨_,rfl,_,x,rfl,u6 _,hx,fun r H3 s3 hr'=>k r H3 (bI s1 (bI s2 s3)) hr'⟩
theorem scLeanF:FnScope ["text"] ["text"] (aB S68):=mkS
theorem Ib(T:Txt P w K mg t):FO P w K mg base 5 t.a68 t.d68 ["text"] (spF sH):=by
 have G64:=En (base:=base) T;have G59:=nC (base:=base) T;have G66:=qw (base:=base) T;refine T.q68.F.ok1 scLeanF (fun vs H Q E h=>by obtain⟨x,rfl,_⟩:=h;rfl) (fun cdv A outer s H vs Q E hr h=>?_);obtain⟨x,rfl,hx,k⟩:=h;have nd:=scLeanF.nd;refine⟨_,(aq (aA (aQ G66 (hr.mo) T.q66.m T.q66.k T.q66.b aJ (aa (aQ G64 (hr.mo) T.q64.m T.q64.k T.q64.b aJ (aa (aQ G59 (hr.mo) T.q59.m T.q59.k T.q59.b aJ (aa (pvl 0) aj)) aj)) (aa (pvl 0) aj))))),?_⟩;have hfl:=u5 x;refine⟨_,rfl,x,rfl,qnt hx (by decide),fun H1 s1=>⟨cI x,rfl,qnt hfl (qnt hx (by decide)),fun H2 s2=>?_⟩⟩;exact⟨_,rfl,_,x,rfl,Ep _,hx,fun r H3 s3 hr'=>k r H3 (bI s1 (bI s2 s3)) hr'⟩
def dq(x:Str):List Str:=(Txt.split x " ").filter fun(w:Str)=>!decide (w="")
inductive spWordsIn(vs:List V)(H:Hp)(Q:VK)(E:XK):Prop
 |mk (x) (_:vs=[.str x]) (_:x.length<=gb) (_:∀ p H',(∀ b o,H b=some o->H' b=some o)->H' p=some (.lst ((dq x).map V.str))->Q (.ref p) H')
def gD(x:Str):Str:=Txt.stripChars x " "
def nF(x:Str):Option (V×List Str):=if Txt.contains x ":"=true then some (.non,[gD (jo (cJ 58 x.cps.toList)),gD (jo (cu 58 x.cps.toList))])else none
theorem Jy:(":":Str)=⟨#[58]⟩:=by decide +kernel
def fO(ns:List Str):Bool:=(decide (1<=(ns.length:Int)) && decide ((ns.length:Int)<=8)) && ns.all fun n=>isName n && decide ((ns.map V.str).countP (fun z=>eqV z (.str n))=1)
inductive spNamesF(vs:List V)(H:Hp)(Q:VK)(E:XK):Prop
 |mk (x) (_:vs=[.str x]) (_:x.length<=gb) (_:∀ r H',(∀ b o,H b=some o->H' b=some o)->(if fO (dq x)=true then ∃ p,Eo H' r (.ref p) []/\H' p=some (.tup ((dq x).map V.str))else r = .non)->Q r H')
theorem scWordsIn:FnScope ["text"] ["text"] (aB S58):=mkS
theorem By(T:Txt P w K mg t):FO P w K mg base 1 t.a58 t.d58 ["text"] spWordsIn:=by
 refine T.q58.F.ok2 scWordsIn (fun cdv A outer s H vs Q E hr h=>?_);obtain⟨x,rfl,hx,k⟩:=h;have nd:=scWordsIn.nd;refine⟨_,(aq (aA (cj rfl ["word"] [none] (cZ (bW PySem.F.plainAttrs_str PySem.F.slot_str_split PySem.F.type_str_split wJ (pvl 0) (aa az aj))) (by kernel_rfl) (fun _ _ _ _ _ _=>(pgl 0 (ndS (l:=["word"])))) (fun _ _ _ _ _ _=>gG (aH gn (pvl 0) az (aN _))) (fun _ _ _ _ _ _=>(pvl 0))))),?_⟩;have hm:=jq;have hsl:=PyProof.Rows.split_le x " ";refine⟨_,rfl,rfl,x,_,rfl,rfl,(by rw[nA];decide),by omega,by omega,fun p hp=>?_⟩;have s1:=aY (o:=.lst ((Txt.split x " ").map V.str)) hp;have hp1:(upd H p (.lst ((Txt.split x " ").map V.str))) p=some (.lst ((Txt.split x " ").map V.str)):=au;generalize upd H p (.lst ((Txt.split x " ").map V.str))=H1 at s1 hp1 ⊢;refine⟨p,rfl,⟨_,SqL.of hp1⟩,?_⟩
 refine gA (K:=K) (a:=p) (xs:=(Txt.split x " ").map V.str) (fun i ys H'=>H'=H1/\ys=(((Txt.split x " ").take i).filter fun(w:Str)=>!decide (w="")).map V.str) ⟨rfl,rfl⟩ (by rw[qlm];omega) (fun i ys H' ⟨_,e⟩=>by
  rw[e,qlm];have:=List.length_filter_le (fun w:Str=>!decide (w="")) ((Txt.split x " ").take i);rw[List.length_take]at this
  omega) (fun i ys H' ⟨e,_⟩=>by subst e;exact SqL.of hp1) ?_ ?_
 . rintro i z ys H' hi ⟨e,rfl⟩
   subst e;rw[qgm]at hi
   obtain⟨c,hc,rfl⟩:∃ c,(Txt.split x " ")[i]? = some c/\z=V.str c:=by
    cases q:(Txt.split x " ")[i]? with
    |none=>rw[q]at hi;cases hi
    |some c=>rw[q]at hi;exact⟨c,rfl,(qsi hi).symm⟩
   have et:(((Txt.split x " ").take (i+1)).filter fun(w:Str)=>!decide (w=""))=(((Txt.split x " ").take i).filter fun(w:Str)=>!decide (w=""))++(if c="" then []else [c]):=by
    rw[qta,hc,List.filter_append]
    congr 1
    show List.filter _ [c]=_
    by_cases h:c=""
    . rw[qp h,List.filter_cons_of_neg (by rw[qdt h];decide)]
      rfl
    . rw[qnZ h,List.filter_cons_of_pos (by rw[qdf h];rfl)]
      rfl
   refine⟨trivial,_,rfl,rfl,_,rfl,aU (fun z=>?_) (fun z=>?_)⟩
   . have z:¬ c="":=fun e=>by rw[e,qdt rfl]at z;cases z
     refine⟨_,rfl,rfl,?_⟩;rw[et,qnZ z,List.map_append]
     rfl
   . have z:c="":=Classical.byContradiction fun e=>z (by rw[qdf (fun q=>e (V.str.inj q))];rfl)
     refine⟨rfl,?_⟩;rw[et,qp z,List.append_nil]
 rintro ys H' ⟨e,rfl⟩;subst e;show ∀ l,H' l=none->_;rw[qlm,List.take_length];intro l hl;exact k l _ (bI s1 (aY hl)) au
theorem scLostF:FnScope ["text","parts"] ["text"] (aB S70):=mkS
theorem Ie(T:Txt P w K mg t):FO P w K mg base 1 t.a70 t.d70 ["text"] (spF nF):=by
 refine T.q70.F.ok1 scLostF (fun vs H Q E h=>by obtain⟨x,rfl,_⟩:=h;rfl) (fun cdv A outer s H vs Q E hr h=>?_);obtain⟨x,rfl,hx,k⟩:=h;have nd:=scLostF.nd
 refine⟨_,(ao (aV (aH xU az (pvl 0) (by with_unfolding_all rfl))
    (aq (aA bK))
    aP)
   (ao (psl 1 nd (bW PySem.F.plainAttrs_str PySem.F.slot_str_partition PySem.F.type_str_partition kj (pvl 0) (aa az aj)))
   (aq (aA (bw (aa bK (aa (bF (aa (bW PySem.F.plainAttrs_str PySem.F.slot_str_strip PySem.F.type_str_strip oN (pix aK (pvl 1) ak) (aa az aj)) (aa (bW PySem.F.plainAttrs_str PySem.F.slot_str_strip PySem.F.type_str_strip oN (pix aK (pvl 1) ak) (aa az aj)) aj))) aj))))))),?_⟩
 have hm:=jq;have hxl:x.length=x.cps.toList.length:=Array.length_toList.symm;unfold nF at k;refine⟨_,rfl,_,_,rfl,rfl,_,rfl,?_⟩;cases h:Txt.contains x ":" with
 | false =>
  rw[h,qnZ qbf]at k;exact bT (k _ _ (fun _ _ e=>e) rfl)
 | true =>
  rw[h,qp rfl]at k;refine bz ?_;refine⟨_,rfl,rfl,x,_,58,rfl,rfl,Jy,by omega,fun p b hp=>?_⟩;have s1:=aY (o:=.tup [.str ⟨(cJ 58 x.cps.toList).toArray⟩,.str b,.str ⟨(cu 58 x.cps.toList).toArray⟩]) hp;have hp1:(upd H p (.tup [.str ⟨(cJ 58 x.cps.toList).toArray⟩,.str b,.str ⟨(cu 58 x.cps.toList).toArray⟩])) p=some (.tup [.str (jo (cJ 58 x.cps.toList)),.str b,.str (jo (cu 58 x.cps.toList))]):=au;generalize upd H p (.tup [.str ⟨(cJ 58 x.cps.toList).toArray⟩,.str b,.str ⟨(cu 58 x.cps.toList).toArray⟩])=H1 at s1 hp1 ⊢
  have hA:(jo (cJ 58 x.cps.toList)).length <= sizeLine:=by
   have:=pH 58 x.cps.toList;show(cJ 58 x.cps.toList).toArray.size<=_;rw[List.size_toArray];omega
  have hB:(jo (cu 58 x.cps.toList)).length <= sizeLine:=by
   have:=lN 58 x.cps.toList;show(cu 58 x.cps.toList).toArray.size<=_;rw[List.size_toArray];omega
  refine⟨_,rfl,p,_,0,_,rfl,rfl,SqT.of hp1,rfl,rfl,_,_,rfl,rfl,hA,_,rfl,p,_,2,_,rfl,rfl,SqT.of hp1,rfl,rfl,_,_,rfl,rfl,hB,(by show 2<=sizeLine;decide),fun l hl=>⟨(by show 2<=sizeLine;decide),fun q hq=>?_⟩⟩;exact k _ _ (bI s1 (bI (aY hl) (aY hq))) ⟨q,l,rfl,au,aY hq _ _ au⟩
theorem yg{x n:Str}(h:n∈dq x):n.length<=x.length:=PyProof.Rows.part_short (List.mem_filter.mp h).1
theorem BJ(x:Str):(dq x).length <= x.length+2:=qnt (List.length_filter_le _ _) (PyProof.Rows.split_le x " ")
theorem sI(ns:List Str):(ns.map V.str).all eY=true:=by
 rw[List.all_eq_true];intro v hv;obtain⟨n,_,rfl⟩:=List.mem_map.mp hv
 rfl
theorem scNamesF:FnScope ["text","names"] ["text"] (aB S65):=mkS
theorem Er(T:Txt P w K mg t):FO P w K mg base 3 t.a65 t.d65 ["text"] spNamesF:=by
 have G58:=By (base:=base) T;have G1:=pB (base:=base) T;refine T.q65.F.ok2 scNamesF (fun cdv A outer s H vs Q E hr h=>?_);obtain⟨x,rfl,hx,k⟩:=h;have nd:=scNamesF.nd
 refine⟨_,(ao (psc 1 nd (aQ G58 (hr.mo) T.q58.m T.q58.k T.q58.b aJ (aa (pvl 0) aj)))
   (ao (aV (cQ (vZ pO pO ak (aZ aX T.zd Bt.len (aa (pvc 1) aj)) (fG (v:=.int 8) T.zaA ⟨_,rfl⟩)))
    (aq (aA bK))
    aP)
   (ao (aV (cQ (bZ (aZ (lE rfl) T.zF Bt.all (aa (cj rfl ["name","names"] [none,some 1] (cZ (pvc 1)) (by kernel_rfl) (fun _ _ _ _ _ _=>(pgl 0 (ndS (l:=["name","names"])))) (fun _ _ _ _ _ _=>cN) (fun _ _ _ _ _ _=>(ou (aQ G1 (hr.mo) T.q1.m T.q1.k T.q1.b aJ (aa (pvl 0) aj)) (my (cF aW (Dc (K:=K) rfl PySem.F.plainAttrs_list PySem.F.slot_list_count PySem.F.type_list_count (Dt (K:=K)) (pvc 1) (aa (pvl 0) aj)) ak (aN _)))))) aj))))
    (aq (aA bK))
    aP)
   (aq (aA (bw (aa (dh dB T.zn Bt.tuple (aa (pvc 1) aj)) (aa (bF aj) aj)))))))),?_⟩
 have hm:=jq;refine⟨_,rfl,x,rfl,hx,fun p H1 s1 hp1=>?_⟩;have hns:∀ n∈dq x,n.length<=sizeLine:=fun n hn=>by have:=yg hn;omega
 have hnl:=BJ x;generalize dq x=ns at hp1 hns hnl k;have fin:∀ H',(∀ b o,H b=some o->H' b=some o)->fO ns=false->Q .non H':=fun H' s' e=>k _ _ s' (by rw[e,qnZ qbf])
 refine⟨_,rfl,p,_,rfl,.inl (SqL.of hp1),_,_,rfl,rfl,_,rfl,?_⟩;rw[qlm];refine aU (fun e1=>?_) (fun e1=>⟨_,rfl,bT (fin H1 s1 (by simp at e1;simp[fO];omega))⟩);have e1:=qod e1;refine⟨_,_,rfl,rfl,_,rfl,?_⟩;cases e2:decide ((ns.length:Int)<=8)with
 |false=>exact bT (fin H1 s1 (by simp at e2;simp[fO];omega))
 |true =>
 refine bz ?_;refine⟨_,rfl,p,rfl,⟨_,SqL.of hp1⟩,?_⟩;refine gA (K:=K) (a:=p) (xs:=ns.map V.str) (fun i ys H'=>(∀ b o,H1 b=some o->H' b=some o)/\ys=((ns.take i).map fun n=>isName n && decide ((ns.map V.str).countP (fun z=>eqV z (.str n))=1)).map V.bl) ⟨fun _ _ e=>e,rfl⟩ (by rw[qlm];omega) (fun i ys H' ⟨_,e⟩=>by rw[e,qlm,qlm,List.length_take];omega) (fun i ys H' ⟨s',_⟩=>SqL.of (s' _ _ hp1)) ?_ ?_
 . rintro i z ys H2 hi ⟨s2,rfl⟩
   rw[qgm]at hi
   obtain⟨n,hn,rfl⟩:∃ c,ns[i]? = some c/\z=V.str c:=by
    cases q:ns[i]? with
    |none=>rw[q]at hi;cases hi
    |some c=>rw[q]at hi;exact⟨c,rfl,(qsi hi).symm⟩
   have hnm:n∈ns:=qmg hn
   have et:∀ b:Bool,(isName n && decide ((ns.map V.str).countP (fun z=>eqV z (.str n))=1))=b->((ns.take i).map fun n=>isName n && decide ((ns.map V.str).countP (fun z=>eqV z (.str n))=1)).map V.bl++[V.bl b]=((ns.take (i+1)).map fun n=>isName n && decide ((ns.map V.str).countP (fun z=>eqV z (.str n))=1)).map V.bl:=fun b e=>by
    rw[qta,hn,List.map_append,List.map_append,<- e]
    rfl
   refine⟨⟨rfl,trivial⟩,_,rfl,n,rfl,hns n hnm,fun H3 s3=>⟨_,rfl,?_⟩⟩;have s23:=bI s2 s3;cases h:isName n with
   |false=>exact bz ⟨s23,et false (by rw[h];rfl)⟩
   | true =>
    refine bT ⟨_,rfl,.inl ⟨rfl,_,SqL.of (s23 _ _ hp1)⟩,_,rfl,p,_,.str n,rfl,rfl,SqL.of (s23 _ _ hp1),rfl,sI ns,fun j hj ej=>⟨rfl,s23,et _ ?_⟩⟩;rw[h,Bool.true_and,<- ej]
    by_cases e:j=1
    . rw[qdt e,qdt (by rw[e];rfl)]
    . rw[qdf e,qdf (fun z=>e (by have:=V.int.inj z;omega))]
 rintro ys H2 ⟨s2,rfl⟩ lc hlc;rw[qlm,List.take_length];have s3:=aY (o:=.lst ((ns.map fun n=>isName n && decide ((ns.map V.str).countP (fun z=>eqV z (.str n))=1)).map V.bl)) hlc;refine⟨lc,_,rfl,SqL.of au,?_⟩;generalize upd H2 lc (.lst ((ns.map fun n=>isName n && decide ((ns.map V.str).countP (fun z=>eqV z (.str n))=1)).map V.bl))=H3 at s3 ⊢;have s13:=bI s1 (bI s2 s3);have hp3:=s3 _ _ (s2 _ _ hp1)
 have ea:(ns.map fun n=>isName n && decide ((ns.map V.str).countP (fun z=>eqV z (.str n))=1)).all id=ns.all fun n=>isName n && decide ((ns.map V.str).countP (fun z=>eqV z (.str n))=1):=by
  rw[List.all_map]
  rfl
 rw[ea];have e2':=qod e2
 have eb:fO ns=ns.all fun n=>isName n && decide ((ns.map V.str).countP (fun z=>eqV z (.str n))=1):=by
  unfold fO;rw[qdt e1,qdt e2']
  rfl
 rw[<- eb];cases h:fO ns with
 |false=>exact⟨_,rfl,bT (fin H3 s13 h)⟩
 | true =>
  refine⟨_,rfl,bz ?_⟩;refine⟨_,rfl,p,_,rfl,.inl ⟨SqL.of hp3,fun q hq=>⟨(by show 0<=sizeLine;decide),fun l hl=>⟨(by show 2<=sizeLine;decide),fun r hr'=>?_⟩⟩⟩⟩;refine k _ _ (bI s13 (bI (aY hq) (bI (aY hl) (aY hr')))) ?_;rw[h,qp rfl];exact⟨q,⟨r,l,rfl,au,aY hr' _ _ au⟩,aY hr' _ _ (aY hl _ _ au)⟩
def PB(H:Hp)(v:V)(kd:Str):Option (V×List Str)->Prop
 |none=>v = .non
 |some (pay,ts)=>∃ q l,v = .ref q/\H q=some (.tup [.str kd,pay,.ref l])/\H l=some (.lst (ts.map V.str))
theorem sJ(x:Str):(bJ x).length <= x.length:=by
 have h1:=lN 32 x.cps.toList;have h2:x.length=x.cps.toList.length:=Array.length_toList.symm
 have h3:((cu 32 x.cps.toList).dropWhile (· == 32)).length <= (cu 32 x.cps.toList).length:=by
  rw[<- jj,List.length_drop];omega
 show((cu 32 x.cps.toList).dropWhile (· == 32)).toArray.size<=_;rw[List.size_toArray];omega
def iW(kd:Str):Option (Str->Option (V×List Str)):=
 if kd="take" then some sG else if kd="give"\/kd="ask" then some vQ else if kd="lean" then some sH else if kd="keep" then some Bx else if kd="back"\/kd="again"\/kd="worlds" then some sE else if kd="lost" then some nF else none
inductive spFormOf(vs:List V)(H:Hp)(Q:VK)(E:XK):Prop
 |mk (x:Str) (O:Str->Option (V×List Str)) (_:vs=[.str x]) (_:x.length<=gb) (_:iW (cI x)=some O) (_:∀ r H',(∀ b o,H b=some o->H' b=some o)->PB H' r (cI x) (O (bJ x))->Q r H')
theorem scFormOf:FnScope ["row","kind","pair"] ["row"] (aB S74):=mkS
theorem Es(T:Txt P w K mg t):FO P w K mg base 6 t.a74 t.d74 ["row"] spFormOf:=by
 have G59:=nC (base:=base) T;have G60:=nD (base:=base) T;refine T.q74.F.ok2 (k:=5) scFormOf (fun cdv A outer s H vs Q E hr h=>?_);obtain⟨x,O,rfl,hx,hO,k⟩:=h;have nd:=scFormOf.nd;have hu:=gF hr
 refine⟨_,(ao (psl 1 nd (aQ G59 (hr.mo) T.q59.m T.q59.k T.q59.b aJ (aa (pvl 0) aj)))
   (ao (aV (rD (oK T.zo (pvl 1) (fG (v:=.ref t.zo) T.zE rfl)))
    (aq (aA bK))
    aP)
   (ao (psl 2 nd (m8 (jh T.zo hu (fG (v:=.ref t.zo) T.zE rfl) (pvl 1) (fun _ _=>rfl)) (aa (aQ G60 (hr.mo) T.q60.m T.q60.k T.q60.b aJ (aa (pvl 0) aj)) aj)))
   (aq (aA (fC (aH gR (pvl 2) bK (aN _)) bK (bw (aa (pvl 1) (aa (pix aK (pvl 2) ak) (aa (pix aK (pvl 2) ak) aj)))))))))),?_⟩
 have hm:=jq;have hb:=sJ x;refine⟨_,rfl,x,rfl,by omega,fun H1 s1=>?_⟩;generalize cI x=kd at hO k
 obtain ⟨f,fd,hv,F,hk,hbd⟩:∃(f:Addr) (fd:FuncData),bY ([(.inr "names",.ref t.a65),(.inr "take",.ref t.a67),(.inr "give",.ref t.a69),(.inr "lean",.ref t.a68),(.inr "keep",.ref t.a71),(.inr "pour",.ref t.a72),(.inr "back",.ref t.a73),(.inr "again",.ref t.a73),(.inr "ask",.ref t.a69),(.inr "lost",.ref t.a70),(.inr "worlds",.ref t.a73)]:List (Key×V)) (Sum.inr kd:Key)=some (V.ref f)/\FO P w K mg base 5 f fd ["text"] (spF O)/\W.keepIn K (.ref f)=true/\Binds K fd ["text"] []:=by
  unfold iW at hO
  split at hO
  . rename_i e
    cases hO;subst e;exact⟨t.a67,t.d67,by kernel_rfl,(Ia T).mono (by decide),T.q67.k,T.q67.b⟩
  . split at hO
    . rename_i e
      cases hO;rcases e with e|e
      . subst e
        exact⟨t.a69,t.d69,by kernel_rfl,(xm T).mono (by decide),T.q69.k,T.q69.b⟩
      . subst e
        exact⟨t.a69,t.d69,by kernel_rfl,(xm T).mono (by decide),T.q69.k,T.q69.b⟩
    . split at hO
      . rename_i e
        cases hO;subst e;exact⟨t.a68,t.d68,by kernel_rfl,(Ib T).mono (by decide),T.q68.k,T.q68.b⟩
      . split at hO
        . rename_i e
          cases hO;subst e;exact⟨t.a71,t.d71,by kernel_rfl,(HW T).mono (by decide),T.q71.k,T.q71.b⟩
        . split at hO
          . rename_i e
            cases hO;rcases e with e|e|e
            . subst e
              exact⟨t.a73,t.d73,by kernel_rfl,(qU T).mono (by decide),T.q73.k,T.q73.b⟩
            . subst e
              exact⟨t.a73,t.d73,by kernel_rfl,(qU T).mono (by decide),T.q73.k,T.q73.b⟩
            . subst e
              exact⟨t.a73,t.d73,by kernel_rfl,(qU T).mono (by decide),T.q73.k,T.q73.b⟩
          . split at hO
            . rename_i e
              cases hO;subst e;exact⟨t.a70,t.d70,by kernel_rfl,(Ie T).mono (by decide),T.q70.k,T.q70.b⟩
            . cases hO
 refine⟨_,rfl,.inr kd,rfl,rfl,_,rfl,?_⟩;rw[hv];refine bz ?_;refine⟨_,rfl,.inr kd,V.ref f,rfl,rfl,hv,f,CX1 P w,5,fd,["text"],spF O,_,rfl,F,hr,hk,hbd,aJ,_,rfl,x,rfl,by omega,fun H2 s2=>⟨bJ x,rfl,by omega,fun r H3 s3 hr3=>?_⟩⟩;have s13:=bI s1 (bI s2 s3);cases ho:O (bJ x)with
 | none =>
  rw[ho]at hr3 k;have hr3:r = .non:=hr3;subst hr3;exact⟨_,rfl,rfl,_,rfl,aU (fun _=>k _ _ s13 rfl) (fun z=>absurd (qdt rfl) z)⟩
 | some pr =>
  obtain⟨pay,ts⟩:=pr;rw[ho]at hr3 k;obtain⟨q,l,rfl,hq,hl⟩:=hr3;refine⟨_,rfl,rfl,_,rfl,aU (fun z=>absurd (qod z) (by intro z;cases z)) (fun _=>?_)⟩;refine⟨_,rfl,_,rfl,q,_,0,pay,rfl,rfl,SqT.of hq,rfl,_,rfl,q,_,1,.ref l,rfl,rfl,SqT.of hq,rfl,(by show 3<=sizeLine;decide),fun m hm'=>?_⟩;exact k _ _ (bI s13 (aY hm')) ⟨m,l,rfl,au,aY hm' _ _ hl⟩
theorem MN:("\n":Str)=⟨#[10]⟩:=by decide +kernel
def gZ(x:Str):List (Nat×Str):=(Txt.split x "\n").zipIdx.map fun p=>(p.2,gD p.1)
def pZ(x:Str):List (Nat×Str):=(gZ x).filter fun(r:Nat×Str)=>!decide (r.2="")
def RwAt(H:Hp)(v:V)(r:Nat×Str):Prop:=∃ q,v = .ref q/\H q=some (.tup [.int (r.1:Int),.str r.2])
theorem RwAt.mono{H H':Hp}(s:∀ b o,H b=some o->H' b=some o){v:V}{r:Nat×Str}:RwAt H v r->RwAt H' v r:=fun⟨q,h1,h2⟩=>⟨q,h1,s _ _ h2⟩
inductive spRowsIn(vs:List V)(H:Hp)(Q:VK)(E:XK):Prop
 |mk (x) (_:vs=[.str x]) (_:x.length<=gb) (_:∀ p us H',(∀ b o,H b=some o->H' b=some o)->H' p=some (.lst us)->Paired (RwAt H') us (pZ x)->Q (.ref p) H')
theorem Et(x:Str):(gZ x).length=(Txt.split x "\n").length:=by
 unfold gZ;rw[qlm,List.length_zipIdx]
theorem Ig {x:Str} {i:Nat} {s:Str} (h:(Txt.split x "\n")[i]? = some s):(gZ x)[i]? = some (i,gD s):=by
 unfold gZ;rw[qgm,List.getElem?_zipIdx,h];simp
theorem scRowsIn:FnScope ["text","rows"] ["text"] (aB S57):=mkS
theorem Eu(T:Txt P w K mg t):FO P w K mg base 1 t.a57 t.d57 ["text"] spRowsIn:=by
 refine T.q57.F.ok2 scRowsIn (fun cdv A outer s H vs Q E hr h=>?_);obtain⟨x,rfl,hx,k⟩:=h;have nd:=scRowsIn.nd
 refine⟨_,(ao (gH (i:=1) rfl ["place","row"] [none,none] nd rfl rfl (vL (bW PySem.F.plainAttrs_str PySem.F.slot_str_split PySem.F.type_str_split wJ (pvl 0) (aa az aj)) T.zm) (by kernel_rfl) (fun _ _ _ _ _ _=>(iI (K:=K) (n:=2) rfl rfl (bB (pgl 0 (ndS (l:=["place","row"]))) (bB (pgl 1 (ndS (l:=["place","row"]))) dR)))) (fun _ _ _ _ _ _=>cN) (fun _ _ _ _ _ _=>(bw (aa (pvl 0) (aa (Dc (K:=K) rfl PySem.F.plainAttrs_str PySem.F.slot_str_strip PySem.F.type_str_strip oN (pvl 1) (aa az aj)) aj)))))
   (aq (aA (cj rfl ["pair"] [none] (cZ (pvl 1)) (by kernel_rfl) (fun _ _ _ _ _ _=>(pgl 0 (ndS (l:=["pair"])))) (fun _ _ _ _ _ _=>gG (aH gn (pix (mK (K:=K)) (pvl 0) ak) az (aN _))) (fun _ _ _ _ _ _=>(pvl 0)))))),?_⟩
 have hm:=jq;have hsl:=PyProof.Rows.split_le x "\n";refine⟨_,rfl,rfl,x,_,rfl,rfl,(by rw[MN];decide),by omega,by omega,fun p hp=>?_⟩;have s1:=aY (o:=.lst ((Txt.split x "\n").map V.str)) hp;have hp1:(upd H p (.lst ((Txt.split x "\n").map V.str))) p=some (.lst ((Txt.split x "\n").map V.str)):=au;generalize upd H p (.lst ((Txt.split x "\n").map V.str))=H1 at s1 hp1 ⊢;have hal:=Et x;refine⟨p,rfl,⟨_,SqL.of hp1⟩,?_⟩;refine uI (K:=K) (a:=p) (xs:=(Txt.split x "\n").map V.str) (fun i ys H'=>(∀ b o,H1 b=some o->H' b=some o)/\Paired (RwAt H') ys ((gZ x).take i)) ⟨fun _ _ e=>e,.nil⟩ (by rw[qlm];omega) (fun i ys H' ⟨_,e⟩=>by rw[Paired.length e,List.length_take];omega) (fun i ys H' ⟨s',_⟩=>SqL.of (s' _ _ hp1)) ?_ ?_
 . rintro i y ys H2 hi ⟨s2,hP⟩ e he
   rw[qgm]at hi
   obtain⟨c,hc,rfl⟩:∃ c,(Txt.split x "\n")[i]? = some c/\y=V.str c:=by
    cases q:(Txt.split x "\n")[i]? with
    |none=>rw[q]at hi;cases hi
    |some c=>rw[q]at hi;exact⟨c,rfl,(qsi hi).symm⟩
   have hcl:c.length<=sizeLine:=by have:=PyProof.Rows.part_short (qmg hc);omega
   have s3:=aY (o:=.tup [.int (i:Int),.str c]) he;refine⟨e,_,rfl,SqT.of au,rfl,_,_,rfl,_,_,rfl,rfl,trivial,?_⟩;refine⟨_,rfl,_,rfl,rfl,c,_,rfl,rfl,hcl,(by show 2<=sizeLine;decide),fun m hm'=>?_⟩;have s4:=aY (o:=.tup [.int (i:Int),.str (Txt.stripChars c " ")]) hm';refine⟨bI s2 (bI s3 s4),?_⟩;rw[qta,Ig hc];exact dM (Paired.mapP hP fun _ _ z=>RwAt.mono (bI s3 s4) z) (.cons ⟨m,rfl,au⟩ .nil)
 rintro ys H2 ⟨s2,hP⟩ l hl;rw[qlm,<- hal,List.take_length]at hP;have s3:=aY (o:=.lst ys) hl;have hl3:(upd H2 l (.lst ys)) l=some (.lst ys):=au;have hP3:=Paired.mapP hP fun _ _ z=>RwAt.mono s3 z
 generalize upd H2 l (.lst ys)=H3 at s3 hl3 hP3 ⊢;have s13:=bI s1 (bI s2 s3);have hyl:=Paired.length hP;refine⟨_,rfl,l,rfl,⟨_,SqL.of hl3⟩,?_⟩
 refine gA (K:=K) (a:=l) (xs:=ys) (fun i zs H'=>H'=H3/\Paired (RwAt H3) zs (((gZ x).take i).filter fun(r:Nat×Str)=>!decide (r.2=""))) ⟨rfl,.nil⟩ (by omega) (fun i zs H' ⟨_,e⟩=>by
  rw[Paired.length e];have:=List.length_filter_le (fun r:Nat×Str=>!decide (r.2="")) ((gZ x).take i);rw[List.length_take]at this
  omega) (fun i zs H' ⟨e,_⟩=>by subst e;exact SqL.of hl3) ?_ ?_
 . rintro i v zs H' hi ⟨e,hZ⟩
   subst e;obtain⟨r,hr',q,rfl,hq⟩:=bQ hP3 i v hi
   have et:((gZ x).take (i+1)).filter (fun(r:Nat×Str)=>!decide (r.2=""))=((gZ x).take i).filter (fun(r:Nat×Str)=>!decide (r.2=""))++(if r.2="" then []else [r]):=by
    rw[qta,hr',List.filter_append]
    congr 1
    show List.filter _ [r]=_
    by_cases h:r.2=""
    . rw[qp h,List.filter_cons_of_neg (by rw[qdt h];decide)]
      rfl
    . rw[qnZ h,List.filter_cons_of_pos (by rw[qdf h];rfl)]
      rfl
   refine⟨trivial,_,rfl,q,_,1,.str r.2,rfl,rfl,SqT.of hq,rfl,rfl,_,rfl,aU (fun z=>?_) (fun z=>?_)⟩
   . have z:¬ r.2="":=fun e=>by rw[e,qdt rfl]at z;cases z
     refine⟨_,rfl,rfl,?_⟩;rw[et,qnZ z];exact dM hZ (.cons ⟨q,rfl,hq⟩ .nil)
   . have z:r.2="":=Classical.byContradiction fun e=>z (by rw[qdf (fun q=>e (V.str.inj q))];rfl)
     refine⟨rfl,?_⟩;rw[et,qp z,List.append_nil];exact hZ
 rintro zs H' ⟨e,hZ⟩ l2 hl2;subst e;have el:ys.length=(gZ x).length:=hyl;rw[el,List.take_length]at hZ;exact k l2 zs _ (bI s13 (aY hl2)) au (Paired.mapP hZ fun _ _ z=>RwAt.mono (aY hl2) z)
inductive spFormN(vs:List V)(H:Hp)(Q:VK)(E:XK):Prop
 |mk (x) (_:vs=[.str x]) (_:x.length<=gb) (_:cI x="names") (_:fO (dq (bJ x))=true) (_:∀ q p l H',(∀ b o,H b=some o->H' b=some o)->H' q=some (.tup [.str "names",.ref p,.ref l])->H' p=some (.tup ((dq (bJ x)).map V.str))->Q (.ref q) H')
inductive spNamesTold(vs:List V)(H:Hp)(Q:VK)(E:XK):Prop
 |mk (l:Addr) (v:V) (us:List V) (i:Nat) (x:Str) (_:vs=[.ref l]) (_:H l=some (.lst (v::us))) (_:us.length<=gb) (_:RwAt H v (i,x)) (_:x.length<=gb) (_:cI x="names") (_:fO (dq (bJ x))=true) (_:∀ p H',(∀ b o,H b=some o->H' b=some o)->H' p=some (.tup ((dq (bJ x)).map V.str))->Q (.ref p) H')
theorem Ih(T:Txt P w K mg t):FO P w K mg base 6 t.a74 t.d74 ["row"] spFormN:=by
 have G59:=nC (base:=base) T;have G60:=nD (base:=base) T;refine T.q74.F.ok2 (k:=5) scFormOf (fun cdv A outer s H vs Q E hr h=>?_);obtain⟨x,rfl,hx,hO,hB,k⟩:=h;have nd:=scFormOf.nd;have hu:=gF hr
 refine⟨_,(ao (psl 1 nd (aQ G59 (hr.mo) T.q59.m T.q59.k T.q59.b aJ (aa (pvl 0) aj)))
   (ao (aV (rD (oK T.zo (pvl 1) (fG (v:=.ref t.zo) T.zE rfl)))
    (aq (aA bK))
    aP)
   (ao (psl 2 nd (m8 (jh T.zo hu (fG (v:=.ref t.zo) T.zE rfl) (pvl 1) (fun _ _=>rfl)) (aa (aQ G60 (hr.mo) T.q60.m T.q60.k T.q60.b aJ (aa (pvl 0) aj)) aj)))
   (aq (aA (fC (aH gR (pvl 2) bK (aN _)) bK (bw (aa (pvl 1) (aa (pix aK (pvl 2) ak) (aa (pix aK (pvl 2) ak) aj)))))))))),?_⟩
 have hm:=jq;have hb:=sJ x;refine⟨_,rfl,x,rfl,by omega,fun H1 s1=>?_⟩;generalize cI x=kd at hO;subst hO;have hv:bY ([(.inr "names",.ref t.a65),(.inr "take",.ref t.a67),(.inr "give",.ref t.a69),(.inr "lean",.ref t.a68),(.inr "keep",.ref t.a71),(.inr "pour",.ref t.a72),(.inr "back",.ref t.a73),(.inr "again",.ref t.a73),(.inr "ask",.ref t.a69),(.inr "lost",.ref t.a70),(.inr "worlds",.ref t.a73)]:List (Key×V)) (Sum.inr "names" : Key)=some (V.ref t.a65):=by kernel_rfl
 refine⟨_,rfl,.inr "names",rfl,rfl,_,rfl,?_⟩;rw[hv];refine bz ?_;refine⟨_,rfl,.inr "names",V.ref t.a65,rfl,rfl,hv,t.a65,CX1 P w,5,t.d65,["text"],spNamesF,_,rfl,(Er T).mono (by decide),hr,T.q65.k,T.q65.b,aJ,_,rfl,x,rfl,by omega,fun H2 s2=>⟨bJ x,rfl,by omega,fun r H3 s3 hr3=>?_⟩⟩;have s13:=bI s1 (bI s2 s3);rw[hB,qp rfl]at hr3;obtain⟨p,⟨q,l,rfl,hq,hl⟩,hp⟩:=hr3;refine⟨_,rfl,rfl,_,rfl,aU (fun z=>absurd (qod z) (by intro z;cases z)) (fun _=>?_)⟩;refine⟨_,rfl,_,rfl,q,_,0,.ref p,rfl,rfl,SqT.of hq,rfl,_,rfl,q,_,1,.ref l,rfl,rfl,SqT.of hq,rfl,(by show 3<=sizeLine;decide),fun m hm'=>?_⟩;exact k m p l _ (bI s13 (aY hm')) au (aY hm' _ _ hp)
theorem scNamesTold:FnScope ["rows","form"] ["rows"] (aB S89):=mkS
theorem xn(T:Txt P w K mg t):FO P w K mg base 7 t.a89 t.d89 ["rows"] spNamesTold:=by
 have G74:=Ih (base:=base) T;refine T.q89.F.ok2 (k:=6) scNamesTold (fun cdv A outer s H vs Q E hr h=>?_);obtain⟨l,v,us,i,x,rfl,hl,hul,⟨qv,rfl,hqv⟩,hx,hk,hB,k⟩:=h;have nd:=scNamesTold.nd
 refine⟨_,(ao (aV (aH aW (aZ aX T.zd Bt.len (aa (pvl 0) aj)) ak (aN _))
    (aq qy)
    aP)
   (ao (psl 1 nd (aQ G74 (hr.mo) T.q74.m T.q74.k T.q74.b aJ (aa (pix aK (pix cg (pvl 0) ak) ak) aj)))
   (ao (aV (PW.pt (gm (aH gR (pvl 1) bK (aN _)) (gP (aH gn (pix aK (pvl 1) ak) az (aN _)))))
    (aq qy)
    aP)
   (aq (aA (pix aK (pvl 1) ak)))))),?_⟩
 have hm:=jq;refine⟨_,rfl,l,_,rfl,.inl (SqL.of hl),rfl,_,rfl,aU (fun z=>absurd (V.int.inj (qod z)) (by show ¬ ((us.length+1:Nat):Int)=0;omega)) (fun _=>?_)⟩;refine⟨_,rfl,l,_,0,.ref qv,rfl,rfl,SqL.of hl,b8 (j:=0) rfl,qv,_,1,.str x,rfl,rfl,SqT.of hqv,rfl,x,rfl,hx,hk,hB,fun q p l2 H1 s1 hq hp=>?_⟩;refine⟨_,rfl,rfl,_,rfl,aU (fun z=>absurd (qod z) (by intro z;cases z)) (fun _=>?_)⟩;refine⟨_,rfl,q,_,0,_,rfl,rfl,SqT.of hq,rfl,rfl,_,rfl,aU (fun z=>absurd z (by rw[qdt rfl];decide)) (fun _=>?_)⟩;exact⟨_,rfl,q,_,1,.ref p,rfl,rfl,SqT.of hq,rfl,k p H1 s1 hp⟩
def sO(i:Int):Str:=if i=0 then "open" else if 0<i then("held ":Str)++(toString i:String)else("denied ":Str)++(toString (-i):String)
def pI(rs:List Int)(ns:List Str)(tr:Tr):Str:=match aO (sel rs (aC ns tr)),aO (sel rs (aR ns tr))with
 |none,_ => "always"
 |some _,none => "never"
 |some m,some y=>sO (m - y)
inductive spAsk(vs:List V)(H:Hp)(Q:VK)(E:XK):Prop
 |mk (a p r l:Addr) (rs:List Int) (v:V) (us:List V) (ns:List Str) (tr:Tr) (_:vs=[.ref a,.ref l]) (_:MindAt H a p r rs) (_:H l=some (.lst (v::us))) (_:Fits H p v ns tr) (_:(∀ x∈tr.names,x∈ns)) (_:(∀ m y,aO (sel rs (aC ns tr))=some m->aO (sel rs (aR ns tr))=some y->(m - y).natAbs.log2<1920)) (_:∀ H',Same H H'->Q (.str (pI rs ns tr)) H')
theorem oh{K:W.Frag}{C M:Addr}(h:L2.under K C M=true):(lV K C).isSome=true:=by
 unfold L2.under at h;cases e:lV K C with
 |none=>rw[e]at h;cases h
 |some b=>rfl
theorem scAsk:FnScope ["mind","trees","lean"] ["mind","trees"] (aB S83):=mkS
theorem MP(T:Txt P w K mg t):FO P w K mg base 121 t.a83 t.d83 ["mind","trees"] spAsk:=by
 have G22:=Kl (base:=base) T;refine T.q83.F.ok2 (k:=120) scAsk (fun cdv A outer s H vs Q E hr h=>?_);obtain⟨a,p,r,l,rs,v,us,ns,tr,rfl,hm,hl,hf,hall,hlog,k⟩:=h;have nd:=scAsk.nd
 refine⟨_,(ao (yI (wB (J5 (i:=2) nd rfl (Or.inl rfl) (Dh G22 (hr.mo) T.q22.m T.q22.k T.q22.b (aa (pvl 0) (aa (pix cg (pvl 1) ak) aj)))))
    (.cons T.zI T.zS (by kernel_rfl) (by kernel_rfl) (fun e=>(aq (aA az))) (.cons T.zK T.zT (by kernel_rfl) (by kernel_rfl) (fun e=>(aq (aA az))) .nil)))
   (ao (aV (aH aW (pvl 2) ak (aN _))
    (aq (aA az))
    aP)
   (aq (aA (fC (aH lC (pvl 2) ak (aN _)) (aG bj az (dh fQ T.zr Bt.str (aa (pvl 2) aj))) (aG bj az (dh fQ T.zr Bt.str (aa (lA jD (pvl 2)) aj)))))))),?_⟩
 unfold pI at k;refine⟨_,rfl,_,rfl,l,_,0,v,rfl,rfl,SqL.of hl,b8 (j:=0) rfl,a,p,r,rs,v,ns,tr,rfl,hm,hf,fun _=>?_,fun z=>absurd hall z⟩;cases ho:aO (sel rs (aC ns tr))with
 | none =>
  rw[ho]at k;exact fun H1 s1=>⟨t.zh,rfl,oh T.zaa,.inl ⟨T.zaa,k H1 s1⟩⟩
 | some m =>
  rw[ho]at k;cases hk:aO (sel rs (aR ns tr))with
  | none =>
   rw[hk]at k;exact fun H1 s1=>⟨t.zi,rfl,oh T.zab,.inr ⟨T.zaM,.inl ⟨T.zab,k H1 s1⟩⟩⟩
  | some y =>
   rw[hk]at k;have hlg:=hlog m y ho hk;intro H1 s1;have k1:Q (.str (sO (m - y))) H1:=k H1 s1;generalize m - y=i at hlg k1;unfold sO at k1;refine⟨_,rfl,rfl,_,rfl,aU (fun z=>?_) (fun z=>?_)⟩
   . rw[qp (V.int.inj (qod z))]at k1
     exact k1
   . have z:¬ i=0:=fun e=>z (qdt (by rw[e]))
     rw[qnZ z]at k1;refine⟨_,rfl,_,_,rfl,rfl,_,rfl,aU (fun g=>?_) (fun g=>?_)⟩
     . have g:0<i:=qod g
       rw[qp g]at k1;refine⟨_,rfl,i,rfl,hlg,_,_,rfl,rfl,?_,k1⟩;have:=PyProof.Rows.int_text_len_1921 hlg;have e5:("held ":Str).length=5:=by decide +kernel
       rw[e5];exact qnt (Nat.add_le_add_left this 5) (by decide)
     . have g:¬ 0<i:=fun e=>g (qdt e)
       rw[qnZ g]at k1;refine⟨_,rfl,_,rfl,-i,rfl,by rw[Int.natAbs_neg];exact hlg,_,_,rfl,rfl,?_,k1⟩;have:=PyProof.Rows.int_text_len_1921 (i:=-i) (by rw[Int.natAbs_neg];exact hlg);have e7:("denied ":Str).length=7:=by decide +kernel
       rw[e7];exact qnt (Nat.add_le_add_left this 7) (by decide)
def fc(n:Nat)(wd:Nat):Str:=Txt.join ("":Str) ((List.range n).map fun(i:Nat)=>((toString ((di wd i:Nat):Int):String):Str))
inductive spWorld(vs:List V)(H:Hp)(Q:VK)(E:XK):Prop
 |mk (p:Addr) (ns:List Str) (wd:Nat) (_:vs=[.ref p,.int (wd:Int)]) (_:H p=some (.tup (ns.map V.str))) (_:ns.length<=8) (_:∀ H',Same H H'->Q (.str (fc ns.length wd)) H')
theorem jN(wd i:Nat):((toString ((di wd i:Nat):Int):String):Str).length=1/\(((di wd i:Nat):Int)).natAbs.log2<1920:=by
 unfold di
 split <;> exact⟨by decide +kernel,by decide +kernel⟩
theorem scWorld:FnScope ["names","world"] ["names","world"] (aB S82):=mkS
theorem xq(T:Txt P w K mg t):FO P w K mg base 2 t.a82 t.d82 ["names","world"] spWorld:=by
 have G6:=oW (base:=base) T;refine T.q82.F.ok2 scWorld (fun cdv A outer s H vs Q E hr h=>?_);obtain⟨p,ns,wd,rfl,hp,h8,k⟩:=h;have nd:=scWorld.nd;refine⟨_,(aq (aA (bW PySem.F.plainAttrs_str PySem.F.slot_str_join PySem.F.type_str_join jZ az (aa (cj rfl ["place","world"] [none,some 1] (gj T.zp (aa (aZ aX T.zd Bt.len (aa (pvl 0) aj)) aj)) (by kernel_rfl) (fun _ _ _ _ _ _=>(pgl 0 (ndS (l:=["place","world"])))) (fun _ _ _ _ _ _=>cN) (fun _ _ _ _ _ _=>(dh fQ T.zr Bt.str (aa (aQ G6 (hr.mo) T.q6.m T.q6.k T.q6.b aJ (aa (pvc 1) (aa (pvl 0) aj))) aj)))) aj)))),?_⟩;have el:(ns.map V.str).length=ns.length:=qlm _;refine⟨rfl,_,rfl,p,_,rfl,.inr (SqT.of hp),_,rfl,by omega,by rw[el];omega,?_⟩;rw[Int.toNat_natCast,el];refine c7 (lo:=0) (n:=ns.length) (fun i=>V.str (toString ((di wd i:Nat):Int):String)) (qnt h8 (by decide)) (fun i R hi hR=>⟨⟨rfl,trivial⟩,_,rfl,_,rfl,wd,i,(by show [V.int (wd:Int),V.int (0+(i:Int))]++[]=_;rw[Int.zero_add];rfl),_,rfl,(jN wd i).2,hR⟩) fun l hl=>?_
 have em:((List.range ns.length).map fun i=>V.str (toString ((di wd i:Nat):Int):String))=(((List.range ns.length).map fun(i:Nat)=>((toString ((di wd i:Nat):Int):String):Str)).map V.str):=by
  rw[List.map_map]
  rfl
 rw[em];refine⟨_,l,_,rfl,rfl,SqL.of au,?_,k _ (aD hl)⟩
 have es:∀ m:Nat,((((List.range m).map fun(i:Nat)=>((toString ((di wd i:Nat):Int):String):Str)).map (·.length)).sum)=m:=by
  intro m
  induction m with
  |zero=>rfl
  | succ m ih =>
   rw[List.range_succ,List.map_append,List.map_append,List.sum_append,ih];show m+((((toString ((di wd m:Nat):Int):String):Str).length)+0)=m+1;rw[(jN wd m).1]
 rw[es,qlm,List.length_range];have e0:("":Str).length=0:=rfl;rw[e0,Nat.mul_zero];omega
def cf(lg kp al ml:Addr):List (Str×V):=bf "minds_behind" (.ref ml) (bf "answers" (.ref al) (bf "kept" (.ref kp) (bf "log" (.ref lg) [])))
theorem sS(lg kp al ml:Addr):(cf lg kp al ml).lookup ("log":Str)=some (.ref lg):=by
 unfold cf;rw[bC,qnZ (by decide +kernel),bC,qnZ (by decide +kernel),bC,qnZ (by decide +kernel),bC,qp rfl]
theorem Jz(lg kp al ml:Addr):(cf lg kp al ml).lookup ("answers":Str)=some (.ref al):=by
 unfold cf;rw[bC,qnZ (by decide +kernel),bC,qp rfl]
theorem JB(lg kp al ml:Addr):(cf lg kp al ml).lookup ("minds_behind":Str)=some (.ref ml):=by
 unfold cf;rw[bC,qp rfl]
structure CA where
 (c cx p dx sl kp al ml:Addr)
structure CoAt(t:Adr)(H:Hp)(g:CA)(bl:Addr)(mv bv:List V)(xs:List Str)(ms:List V):Prop where
 co:H g.c=some (.ins t.zb g.cx (cf g.p g.kp g.al g.ml))
 lg:LogAt t.zc H g.p g.dx g.sl bl mv bv
 an:H g.al=some (.lst (xs.map V.str))
 mb:H g.ml=some (.lst ms)
 n1:g.al≠g.sl
 n2:g.al≠bl
 n3:g.ml≠g.sl
 n4:g.ml≠bl
 n5:g.al≠g.ml
 n6:g.p≠g.c
def KeepC(g:CA)(H H':Hp):Prop:=∀ b o,H b=some o->b≠g.p->b≠g.sl->b≠g.al->b≠g.ml->H' b=some o
theorem LogAt.other{C:Addr}{H:Hp}{p dx sl bl:Addr}{mv bv:List V}(U:LogAt C H p dx sl bl mv bv){c:Addr}{o:HO}(h1:p≠c)(h2:sl≠c)(h3:bl≠c):LogAt C (upd H c o) p dx sl bl mv bv :=
 ⟨by rw[aF h1];exact U.ob,U.ne,by rw[aF h2];exact U.st,by rw[aF h3];exact U.tb⟩
theorem MindAt.otherI{H:Hp}{a np r:Addr}{rs:List Int}(h:MindAt H a np r rs){c:Addr}{o u:HO}(hc:H c=some u)(hu:∀ xs,u≠.tup xs):MindAt (upd H c o) a np r rs :=
 ⟨by rw[aF (bH h.1 hc (fun z=>hu _ z.symm))];exact h.1,by rw[aF (bH h.2.1 hc (fun z=>hu _ z.symm))];exact h.2.1,h.2.2⟩
theorem MindAt.same{H H':Hp}(s:Same H H'){a np r:Addr}{rs:List Int}(h:MindAt H a np r rs):MindAt H' a np r rs:=⟨s _ _ h.1,s _ _ h.2.1,h.2.2⟩
def cG(ns:List Str):List Int:=List.replicate (2 ^ ns.length) (0:Int)
inductive spCInit(t:Adr)(vs:List V)(H:Hp)(Q:VK)(E:XK):Prop
 |mk (c cx np:Addr) (ns:List Str) (_:vs=[.ref c,.ref np]) (_:H c=some (.ins t.zb cx [])) (_:H np=some (.tup (ns.map V.str))) (_:1<=ns.length) (_:ns.length<=8) (_:∀(p dx sl kp al ml bl m r:Addr)(H':Hp),CoAt t H' ⟨c,cx,p,dx,sl,kp,al,ml⟩ bl [.ref m] [] [] []->MindAt H' m np r (cG ns)->H p=none->H sl=none->H al=none->H ml=none->(∀ b o,H b=some o->b≠c->H' b=some o)->Q .non H')
theorem scCInit:FnScope ["self","names"] ["self","names"] (aB S75):=mkS
theorem Ii(T:Txt P w K mg t):FO P w K mg base 5 t.a75 t.d75 ["self","names"] (spCInit t):=by
 have G33:=Ho (base:=base) T;refine T.q75.F.ok2 (k:=4) scCInit (fun cdv A outer s H vs Q E hr h=>?_);obtain⟨c,cx,np,ns,rfl,hc,hn,h1,h8,k⟩:=h;have nd:=scCInit.nd
 refine⟨_,(ao (iQ (pvl 0) (Jo T.zaH G33 (hr.mo) T.zay T.q33.b aJ (aa (pvl 1) aj)) rfl)
   (ao (iQ (pvl 0) qF rfl)
   (ao (iQ (pvl 0) (bF aj) rfl)
   (aq (iQ (pvl 0) (bF aj) rfl))))),?_⟩
 refine⟨_,rfl,fun p dx hp hdx hpd=>?_⟩;have ncp:c≠p:=aM hc hp;have ncd:c≠dx:=aM hc hdx;refine⟨p,dx,np,ns,rfl,au,by rw[aF (aM hn hp),aF (aM hn hdx)];exact hn,h1,h8,fun sl bl m r H1 hsl hbl U hm keep=>⟨rfl,?_⟩⟩;have k1:Same H H1:=fun b o e=>keep b o (by rw[aF (aM e hp),aF (aM e hdx)];exact e) (aM e hp)
 have nsl:H sl=none:=by
  by_cases e:sl=p
  . rw[e];exact hp
  . by_cases e2:sl=dx
    . rw[e2];exact hdx
    . rw[aF e,aF e2]at hsl;exact hsl
 have hc1:=k1 _ _ hc;have ncs:c≠sl:=bH hc1 U.st (by intro z;cases z);have ncb:c≠bl:=bH hc1 U.tb (by intro z;cases z);have il:∀ xs:List V,HO.ins t.zb cx []≠.tup xs:=fun xs z=>by cases z
 refine⟨_,rfl,c,t.zb,cx,_,rfl,hc1,T.zk,T.zz,(by show 0<1000;decide),?_⟩;have U2:=U.other (c:=c) (o:=.ins t.zb cx (bf "log" (.ref p) [])) (Ne.symm ncp) (Ne.symm ncs) (Ne.symm ncb);have hm2:=hm.otherI (c:=c) (o:=.ins t.zb cx (bf "log" (.ref p) [])) hc1 (fun xs z=>by cases z);have hc2:(upd H1 c (.ins t.zb cx (bf "log" (.ref p) []))) c=some (.ins t.zb cx (bf "log" (.ref p) [])):=au;have k2:∀ b o,H b=some o->b≠c->(upd H1 c (.ins t.zb cx (bf "log" (.ref p) []))) b=some o:=fun b o e hb=>by rw[aF hb];exact k1 _ _ e
 generalize upd H1 c (.ins t.zb cx (bf "log" (.ref p) []))=H2 at U2 hm2 hc2 k2 ⊢;intro kp hkp;have s3:=aD (o:=.dK []) hkp;have nck:c≠kp:=aM hc2 hkp;refine⟨_,rfl,c,t.zb,cx,_,rfl,s3 _ _ hc2,T.zk,T.zaL,(by show 1<1000;decide),?_⟩;have U3:=(U2.mono s3).other (c:=c) (o:=.ins t.zb cx (bf "kept" (.ref kp) (bf "log" (.ref p) []))) (Ne.symm ncp) (Ne.symm ncs) (Ne.symm ncb);have hm3:=(hm2.same s3).otherI (c:=c) (o:=.ins t.zb cx (bf "kept" (.ref kp) (bf "log" (.ref p) []))) (s3 _ _ hc2) (fun xs z=>by cases z);have hc3:(upd (upd H2 kp (.dK [])) c (.ins t.zb cx (bf "kept" (.ref kp) (bf "log" (.ref p) [])))) c=some (.ins t.zb cx (bf "kept" (.ref kp) (bf "log" (.ref p) []))):=au;have k3:∀ b o,H b=some o->b≠c->(upd (upd H2 kp (.dK [])) c (.ins t.zb cx (bf "kept" (.ref kp) (bf "log" (.ref p) [])))) b=some o:=fun b o e hb=>by rw[aF hb];exact s3 _ _ (k2 _ _ e hb)
 generalize upd (upd H2 kp (.dK [])) c (.ins t.zb cx (bf "kept" (.ref kp) (bf "log" (.ref p) [])))=H3 at U3 hm3 hc3 k3 ⊢;refine⟨lk (by first|exact qnb rfl|simp),fun al hal=>?_⟩;have s4:=aD (o:=.lst []) hal;have nca:c≠al:=aM hc3 hal
 have nal:H al=none:=by
  cases e:H al with
  |none=>rfl
  |some o=>rw[k3 al o e (Ne.symm nca)]at hal;cases hal
 have nas:al≠sl:=fun z=>by rw[z,U3.st]at hal;cases hal
 have nab:al≠bl:=fun z=>by rw[z,U3.tb]at hal;cases hal
 refine⟨_,rfl,c,t.zb,cx,_,rfl,s4 _ _ hc3,T.zk,T.zN,(by show 2<1000;decide),?_⟩;have U4:=(U3.mono s4).other (c:=c) (o:=.ins t.zb cx (bf "answers" (.ref al) (bf "kept" (.ref kp) (bf "log" (.ref p) [])))) (Ne.symm ncp) (Ne.symm ncs) (Ne.symm ncb);have hm4:=(hm3.same s4).otherI (c:=c) (o:=.ins t.zb cx (bf "answers" (.ref al) (bf "kept" (.ref kp) (bf "log" (.ref p) [])))) (s4 _ _ hc3) (fun xs z=>by cases z);have hc4:(upd (upd H3 al (.lst [])) c (.ins t.zb cx (bf "answers" (.ref al) (bf "kept" (.ref kp) (bf "log" (.ref p) []))))) c=some (.ins t.zb cx (bf "answers" (.ref al) (bf "kept" (.ref kp) (bf "log" (.ref p) [])))):=au;have ha4:(upd (upd H3 al (.lst [])) c (.ins t.zb cx (bf "answers" (.ref al) (bf "kept" (.ref kp) (bf "log" (.ref p) []))))) al=some (.lst []):=by rw[aF (Ne.symm nca),au]
 have k4:∀ b o,H b=some o->b≠c->(upd (upd H3 al (.lst [])) c (.ins t.zb cx (bf "answers" (.ref al) (bf "kept" (.ref kp) (bf "log" (.ref p) []))))) b=some o:=fun b o e hb=>by rw[aF hb];exact s4 _ _ (k3 _ _ e hb)
 generalize upd (upd H3 al (.lst [])) c (.ins t.zb cx (bf "answers" (.ref al) (bf "kept" (.ref kp) (bf "log" (.ref p) []))))=H4 at U4 hm4 hc4 ha4 k4 ⊢;refine⟨lk (by first|exact qnb rfl|simp),fun ml hml=>?_⟩;have s5:=aD (o:=.lst []) hml;have ncm:c≠ml:=aM hc4 hml
 have nml:H ml=none:=by
  cases e:H ml with
  |none=>rfl
  |some o=>rw[k4 ml o e (Ne.symm ncm)]at hml;cases hml
 have nms:ml≠sl:=fun z=>by rw[z,U4.st]at hml;cases hml
 have nmb:ml≠bl:=fun z=>by rw[z,U4.tb]at hml;cases hml
 have nma:al≠ml:=aM ha4 hml;refine⟨_,rfl,c,t.zb,cx,_,rfl,s5 _ _ hc4,T.zk,T.zO,(by show 3<1000;decide),?_⟩;refine k p dx sl kp al ml bl m r _ ⟨au,(U4.mono s5).other (Ne.symm ncp) (Ne.symm ncs) (Ne.symm ncb),?_,?_,nas,nab,nms,nmb,nma,Ne.symm ncp⟩ ((hm4.same s5).otherI (s5 _ _ hc4) (fun xs z=>by cases z)) hp nsl nal nml fun b o e hb=>?_
 . rw[aF (Ne.symm nca)]
   exact s5 _ _ ha4
 . rw[aF (Ne.symm ncm),au]
 . rw[aF hb]
   exact s5 _ _ (k4 _ _ e hb)
def OkS(t:Tr):Prop:=t.size<=100000/\t.depth<=110/\(∃ L:List Str,L.length<64/\∀ x∈t.names,x∈L)/\∀ x∈t.names,oV x
theorem OkS.fits{H:Hp}{p:Addr}{v:V}{ns:List Str}{t:Tr}(h:OkS t)(hp:H p=some (.tup (ns.map V.str)))(h8:ns.length<=8)(hnd:ns.Nodup)(ht:TrAt H v t):Fits H p v ns t:=⟨hp,h8,hnd,ht,h.1,h.2.1,h.2.2.1,h.2.2.2⟩
def JC(ns:List Str)(rs:List Int)(pay:V)(ts:List Tr)(rs':List Int):Prop:=∃(f:Int)(tr:Tr),pay = .int f/\ts=[tr]/\rs'=gY ns tr rs f/\(aO (sel rs (aC ns tr))=none\/∃ y,aO (sel rs (aR ns tr))=some y)
def JD(ns:List Str)(rs:List Int)(pay:V)(ts:List Tr)(rs':List Int):Prop:=∃(tr:Tr),ts=[tr]/\rs'=dg ns tr rs/\∃ x,aO (sel rs (aC ns tr))=some x
def JF(ns:List Str)(rs:List Int)(pay:V)(ts:List Tr)(rs':List Int):Prop:=∃(i:Int)(tr:Tr)(x y:Int),pay = .int i/\ts=[tr]/\aO (sel rs (aC ns tr))=some x/\aO (sel rs (aR ns tr))=some y/\rs'=eZ rs (aC ns tr) x y i
inductive spDe(t:Adr)(D:List Str->List Int->V->List Tr->List Int->Prop)(vs:List V)(H:Hp)(Q:VK)(E:XK):Prop
 |mk (g:CA) (bl:Addr) (mv bv:List V) (xs:List Str) (ms:List V) (a np r l:Addr) (rs rs':List Int) (ns:List Str) (pay:V) (us:List V) (ts:List Tr) (_:vs=[.ref g.c,pay,.ref l]) (_:CoAt t H g bl (mv++[.ref a]) bv xs ms) (_:mv.length<=400) (_:MindAt H a np r rs) (_:Mind ns rs) (_:H np=some (.tup (ns.map V.str))) (_:ns.length<=8) (_:ns.Nodup) (_:H l=some (.lst us)) (_:Paired (TrAt H) us ts) (_:(∀ u∈ts,OkS u/\∀ x∈u.names,x∈ns)) (_:D ns rs pay ts rs') (_:∀(b q bl':Addr)(H':Hp),KeepC g H H'->CoAt t H' g bl' (mv++[.ref a]++[.ref b]) [] xs ms->MindAt H' b np q rs'->Q .non H')
theorem j4{t:Adr}{H H':Hp}{g:CA}{bl bl':Addr}{mv bv mv' bv':List V}{xs:List Str}{ms:List V}(U:CoAt t H g bl mv bv xs ms)(hbl:H bl'=none)(k:nj g.p g.sl H H')(L:LogAt t.zc H' g.p g.dx g.sl bl' mv' bv'):CoAt t H' g bl' mv' bv' xs ms/\KeepC g H H' :=
 ⟨⟨k _ _ U.co (Ne.symm U.n6) (bH U.co U.lg.st (by intro z;cases z)),L,k _ _ U.an (bH U.an U.lg.ob (by intro z;cases z)) U.n1,k _ _ U.mb (bH U.mb U.lg.ob (by intro z;cases z)) U.n3,U.n1,aM U.an hbl,U.n3,aM U.mb hbl,U.n5,U.n6⟩,fun b o e h1 h2 _ _=>k b o e h1 h2⟩
theorem iY{α β:Type}{R:α->β->Prop}{us:List α}{b:β}(h:Paired R us [b]):∃ u,us=[u]/\R u b:=by
 cases h with
 | cons h1 h2 =>
  cases h2;exact⟨_,rfl,h1⟩
theorem scDoTake:FnScope ["course","firm","trees"] ["course","firm","trees"] (aB S76):=mkS
theorem Ew(T:Txt P w K mg t):FO P w K mg base 123 t.a76 t.d76 ["course","firm","trees"] (spDe t JC):=by
 have G35:=Hm (base:=base) T;refine T.q76.F.ok2 (k:=122) scDoTake (fun cdv A outer s H vs Q E hr h=>?_);obtain⟨g,bl,mv,bv,xs,ms,a,np,r,l,rs,rs',ns,pay,us,ts,rfl,U,h400,hm,hM,hnp,h8,hnd,hl,hP,hok,⟨f,tr,rfl,rfl,rfl,hD⟩,k⟩:=h;have nd:=scDoTake.nd;obtain⟨v,rfl,hv⟩:=iY hP;obtain⟨ho,hall⟩:=hok tr qms;refine⟨_,(aq (bA (iC (bN (pvl 0) rfl) T.zg T.q35.e G35 (hr.mo) T.q35.b .nil bx (aa (pix cg (pvl 2) ak) (aa (pvl 1) aj))))),?_⟩;refine⟨_,rfl,g.c,t.zb,g.cx,_,_,rfl,U.co,T.zk,T.zz,sS _ _ _ _,g.p,g.dx,_,rfl,U.lg.ob,iU _ _ (by decide +kernel) (by decide +kernel),_,rfl,l,_,0,v,rfl,rfl,SqL.of hl,b8 (j:=0) rfl,_,rfl,g.p,g.dx,g.sl,bl,mv,bv,a,np,r,rs,v,ns,tr,f,rfl,U.lg,h400,hm,ho.fits hnp h8 hnd hv,fun _=>?_,fun z=>absurd hall z⟩;have go:∀(b q bl':Addr)(H':Hp),H bl'=none->nj g.p g.sl H H'->LogAt t.zc H' g.p g.dx g.sl bl' (mv++[.ref a]++[.ref b]) []->MindAt H' b np q (gY ns tr rs f)->Q .non H':=fun b q bl' H' hb kp L hm'=>k b q bl' H' (j4 U hb kp L).2 (j4 U hb kp L).1 hm'
 rcases hD with e|⟨y,e⟩
 . rw[e]
   exact go
 . rw[e]
   cases aO (sel rs (aC ns tr))with
   |none=>exact go
   |some x=>exact go
theorem scDoGive:FnScope ["course","told","trees"] ["course","told","trees"] (aB S77):=mkS
theorem Ex(T:Txt P w K mg t):FO P w K mg base 123 t.a77 t.d77 ["course","told","trees"] (spDe t JD):=by
 have G36:=Hn (base:=base) T;refine T.q77.F.ok2 (k:=122) scDoGive (fun cdv A outer s H vs Q E hr h=>?_);obtain⟨g,bl,mv,bv,xs,ms,a,np,r,l,rs,rs',ns,pay,us,ts,rfl,U,h400,hm,hM,hnp,h8,hnd,hl,hP,hok,⟨tr,rfl,rfl,x,hx⟩,k⟩:=h;have nd:=scDoGive.nd;obtain⟨v,rfl,hv⟩:=iY hP;obtain⟨ho,hall⟩:=hok tr qms;refine⟨_,(aq (bA (iC (bN (pvl 0) rfl) T.zg T.q36.e G36 (hr.mo) T.q36.b .nil bx (aa (pix cg (pvl 2) ak) aj)))),?_⟩;refine⟨_,rfl,g.c,t.zb,g.cx,_,_,rfl,U.co,T.zk,T.zz,sS _ _ _ _,g.p,g.dx,_,rfl,U.lg.ob,iU _ _ (by decide +kernel) (by decide +kernel),_,rfl,l,_,0,v,rfl,rfl,SqL.of hl,b8 (j:=0) rfl,g.p,g.dx,g.sl,bl,mv,bv,a,np,r,rs,v,ns,tr,rfl,U.lg,h400,hm,hM,ho.fits hnp h8 hnd hv,fun _=>?_,fun z=>absurd hall z⟩;rw[hx];exact fun b q bl' H' hb kp L hm'=>k b q bl' H' (j4 U hb kp L).2 (j4 U hb kp L).1 hm'
theorem scDoLean:FnScope ["course","lean","trees"] ["course","lean","trees"] (aB S78):=mkS
theorem Ey(T:Txt P w K mg t):FO P w K mg base 123 t.a78 t.d78 ["course","lean","trees"] (spDe t JF):=by
 have G37:=Hr (base:=base) T;refine T.q78.F.ok2 (k:=122) scDoLean (fun cdv A outer s H vs Q E hr h=>?_);obtain⟨g,bl,mv,bv,xs,ms,a,np,r,l,rs,rs',ns,pay,us,ts,rfl,U,h400,hm,hM,hnp,h8,hnd,hl,hP,hok,⟨i,tr,x,y,rfl,rfl,hx,hy,rfl⟩,k⟩:=h;have nd:=scDoLean.nd;obtain⟨v,rfl,hv⟩:=iY hP;obtain⟨ho,hall⟩:=hok tr qms;refine⟨_,(aq (bA (iC (bN (pvl 0) rfl) T.zg T.q37.e G37 (hr.mo) T.q37.b .nil bx (aa (pix cg (pvl 2) ak) (aa (pvl 1) aj))))),?_⟩;refine⟨_,rfl,g.c,t.zb,g.cx,_,_,rfl,U.co,T.zk,T.zz,sS _ _ _ _,g.p,g.dx,_,rfl,U.lg.ob,iU _ _ (by decide +kernel) (by decide +kernel),_,rfl,l,_,0,v,rfl,rfl,SqL.of hl,b8 (j:=0) rfl,_,rfl,g.p,g.dx,g.sl,bl,mv,bv,a,np,r,rs,v,ns,tr,i,rfl,U.lg,h400,hm,ho.fits hnp h8 hnd hv,fun _=>?_,fun z=>absurd hall z⟩;rw[hx,hy];exact fun b q bl' H' hb kp L hm'=>k b q bl' H' (j4 U hb kp L).2 (j4 U hb kp L).1 hm'
def Rd1(x:Str)(tr:Tr):Prop:=x.length<=sizeLine/\(∀ c∈x.cps.toList,c<16 ^ 8)/\vP x = .tree tr
def gO:=List Str->List Int->List Tr->Str->Prop
inductive spAn(L:gO)(vs:List V)(H:Hp)(Q:VK)(E:XK):Prop
 |mk (a p r l:Addr) (rs:List Int) (us:List V) (ns:List Str) (ts:List Tr) (txt:Str) (_:vs=[.ref a,.ref l]) (_:MindAt H a p r rs) (_:Mind ns rs) (_:H p=some (.tup (ns.map V.str))) (_:ns.length<=8) (_:ns.Nodup) (_:H l=some (.lst us)) (_:Paired (TrAt H) us ts) (_:(∀ u∈ts,OkS u/\∀ x∈u.names,x∈ns)) (_:L ns rs ts txt) (_:∀ H',Same H H'->Q (.str txt) H')
def Ij:gO:=fun ns rs ts txt=>∃ tr,ts=[tr]/\txt=pI rs ns tr/\∀ m y,aO (sel rs (aC ns tr))=some m->aO (sel rs (aR ns tr))=some y->(m - y).natAbs.log2<1920
def sU(kd:Str):List Str->List Int->V->List Tr->List Int->Prop:=fun ns rs pay ts rs'=>(kd="take"/\JC ns rs pay ts rs')\/(kd="give"/\JD ns rs pay ts rs')\/(kd="lean"/\JF ns rs pay ts rs')
abbrev MT(t:Adr):List (Key×V):=[(.inr "ask",.ref t.a83),(.inr "lost",.ref t.a84),(.inr "worlds",.ref t.a85)]
abbrev Oj(t:Adr):List (Key×V):=[(.inr "take",.ref t.a76),(.inr "give",.ref t.a77),(.inr "lean",.ref t.a78),(.inr "pour",.ref t.a79),(.inr "back",.ref t.a80),(.inr "again",.ref t.a81)]
def vR(P:Program)(w:World)(K:W.Frag)(mg:Str->Option Value)(base:Heap)(t:Adr)(AK:Str->gO->Prop):Prop:=∀ kd L,AK kd L->¬ kd="keep"/\¬ kd="names"/\¬ kd="pour"/\∃(f:Addr) (fd:FuncData),bY (MT t) (.inr kd)=some (.ref f)/\FO P w K mg base 123 f fd ["mind","trees"] (spAn L)/\W.keepIn K (.ref f)=true/\Binds K fd ["mind","trees"] []
structure FormIs(H:Hp)(q:Addr)(kd:Str)(pay:V)(ts:List Tr):Prop where
 ex:∃(l:Addr)(ss:List Str),H q=some (.tup [.str kd,pay,.ref l])/\H l=some (.lst (ss.map V.str))/\Paired Rd1 ss ts/\ss.length<=10
inductive spRow(t:Adr)(AK:Str->gO->Prop)(vs:List V)(H:Hp)(Q:VK)(E:XK):Prop
 |mk (g:CA) (bl:Addr) (mv bv:List V) (xs:List Str) (ms:List V) (a np r q:Addr) (rs:List Int) (ns:List Str) (kd:Str) (pay:V) (ts:List Tr) (_:vs=[.ref g.c,.ref q]) (_:CoAt t H g bl (mv++[.ref a]) bv xs ms) (_:mv.length<=400) (_:xs.length<=400) (_:ms.length<=400) (_:MindAt H a np r rs) (_:Mind ns rs) (_:H np=some (.tup (ns.map V.str))) (_:ns.length<=8) (_:ns.Nodup) (_:FormIs H q kd pay ts) (_:(∀ u∈ts,OkS u/\∀ x∈u.names,x∈ns)) (_:((∃ rs',sU kd ns rs pay ts rs'/\∀(b q' bl':Addr)(H':Hp),KeepC g H H'->CoAt t H' g bl' (mv++[.ref a]++[.ref b]) [] xs (ms++[.ref b])->MindAt H' b np q' rs'->Q .non H')\/(∃ L txt,AK kd L/\L ns rs ts txt/\∀(H':Hp),KeepC g H H'->CoAt t H' g bl (mv++[.ref a]) bv (xs++[txt]) ms->MindAt H' a np r rs->Q .non H')))
theorem CoAt.mono{t:Adr}{H H':Hp}(s:Same H H'){g:CA}{bl:Addr}{mv bv:List V}{xs:List Str}{ms:List V}(U:CoAt t H g bl mv bv xs ms):CoAt t H' g bl mv bv xs ms:=⟨s _ _ U.co,U.lg.mono s,s _ _ U.an,s _ _ U.mb,U.n1,U.n2,U.n3,U.n4,U.n5,U.n6⟩
theorem KeepC.ahead{g:CA}{H H' H'':Hp}(s:Same H H')(k:KeepC g H' H''):KeepC g H H'':=fun b o e=>k b o (s _ _ e)
theorem Ez{t:Adr}{H:Hp}{g:CA}{bl:Addr}{mv bv:List V}{xs:List Str}{ms:List V}(U:CoAt t H g bl mv bv xs ms)(x:Str):CoAt t (upd H g.al (.lst (xs.map V.str++[.str x]))) g bl mv bv (xs++[x]) ms/\KeepC g H (upd H g.al (.lst (xs.map V.str++[.str x]))):=
 ⟨⟨by rw[aF (bH U.co U.an (by intro z;cases z))];exact U.co,U.lg.other (bH U.lg.ob U.an (by intro z;cases z)) (Ne.symm U.n1) (Ne.symm U.n2),by rw[au,List.map_append];rfl,by rw[aF (Ne.symm U.n5)];exact U.mb,U.n1,U.n2,U.n3,U.n4,U.n5,U.n6⟩,fun b o e _ _ h _=>by rw[aF h];exact e⟩
theorem yW{t:Adr}{H:Hp}{g:CA}{bl:Addr}{mv bv:List V}{xs:List Str}{ms:List V}(U:CoAt t H g bl mv bv xs ms)(x:V):CoAt t (upd H g.ml (.lst (ms++[x]))) g bl mv bv xs (ms++[x])/\KeepC g H (upd H g.ml (.lst (ms++[x]))):=
 ⟨⟨by rw[aF (bH U.co U.mb (by intro z;cases z))];exact U.co,U.lg.other (bH U.lg.ob U.mb (by intro z;cases z)) (Ne.symm U.n3) (Ne.symm U.n4),by rw[aF U.n5];exact U.an,au,U.n1,U.n2,U.n3,U.n4,U.n5,U.n6⟩,fun b o e _ _ _ h=>by rw[aF h];exact e⟩
theorem KeepC.trans{g:CA}{H H' H'':Hp}(k:KeepC g H H')(k':KeepC g H' H''):KeepC g H H'':=fun b o e h1 h2 h3 h4=>k' b o (k b o e h1 h2 h3 h4) h1 h2 h3 h4
theorem KD(T:Txt P w K mg t):FO P w K mg base 123 t.a83 t.d83 ["mind","trees"] (spAn Ij):=((MP T).mono (by decide)).imp fun vs H Q E h=>by
 obtain⟨a,p,r,l,rs,us,ns,ts,txt,rfl,hm,hM,hp,h8,hnd,hl,hP,hok,⟨tr,rfl,rfl,hlog⟩,k⟩:=h;obtain⟨v,rfl,hv⟩:=iY hP;obtain⟨ho,hall⟩:=hok tr qms;exact⟨a,p,r,l,rs,v,[],ns,tr,rfl,hm,hl,ho.fits hp h8 hnd hv,hall,hlog,k⟩
theorem scDoRow:FnScope ["course","form","kind","trees"] ["course","form"] (aB S86):=mkS
theorem Ik(T:Txt P w K mg t){AK:Str->gO->Prop}(hA:vR P w K mg base t AK):FO P w K mg base 124 t.a86 t.d86 ["course","form"] (spRow t AK):=by
 have G56:=Ku (base:=base) T;have G41:=ni (base:=base) T;refine T.q86.F.ok2 (k:=123) scDoRow (fun cdv A outer s H vs Q E hr h=>?_);obtain⟨g,bl,mv,bv,xs,ms,a,np,r,q,rs,ns,kd,pay,ts,rfl,U,h400,hx4,hm4,hm,hM,hnp,h8,hnd,⟨l,ss,hq,hl,hP,h10⟩,hok,k⟩:=h;have nd:=scDoRow.nd;have hu:=gF hr
 refine ⟨_,(ao (psl 2 nd (pix aK (pvl 1) ak))
   (ao (gH (i:=3) rfl ["text"] [none] nd rfl rfl (cZ (pix aK (pvl 1) ak)) (by kernel_rfl) (fun _ _ _ _ _ _=>(pgl 0 (ndS (l:=["text"])))) (fun _ _ _ _ _ _=>cN) (fun _ _ _ _ _ _=>(aQ G56 (hr.mo) T.q56.m T.q56.k T.q56.b aJ (aa (pvl 0) aj))))
   (aq (aV (aH aW (pvl 2) az (aN _))
    (aq (tM hu (bN (pvl 0) rfl) (pix aK (pvl 1) ak) (dz (bN (pvl 0) rfl) T.zg T.q41.e G41 (hr.mo) T.q41.b .nil aJ) rfl))
    (aq (aV (rD (Mf T.zx (pvl 2) (fG (v:=.ref t.zx) T.zU rfl)))
     (aq (bA (bW PySem.F.plainAttrs_list PySem.F.slot_list_append PySem.F.type_list_append cM (bN (pvl 0) rfl) (aa (m8 (jh T.zx hu (fG (v:=.ref t.zx) T.zU rfl) (pvl 2) (fun _ _=>rfl)) (aa (dz (bN (pvl 0) rfl) T.zg T.q41.e G41 (hr.mo) T.q41.b .nil aJ) (aa (pvl 3) aj))) aj))))
     (ao (bA (m8 (jh T.zC hu (fG (v:=.ref t.zC) T.zat rfl) (pvl 2) (fun _ _=>rfl)) (aa (pvl 0) (aa (pix aK (pvl 1) ak) (aa (pvl 3) aj)))))
     (aq (bA (bW PySem.F.plainAttrs_list PySem.F.slot_list_append PySem.F.type_list_append cM (bN (pvl 0) rfl) (aa (dz (bN (pvl 0) rfl) T.zg T.q41.e G41 (hr.mo) T.q41.b .nil aJ) aj))))))))))),?_⟩
 refine⟨_,rfl,q,_,0,_,rfl,rfl,SqT.of hq,rfl,?_⟩;refine⟨_,rfl,q,_,2,_,rfl,rfl,SqT.of hq,rfl,l,rfl,⟨_,SqL.of hl⟩,?_⟩;refine gA (K:=K) (a:=l) (xs:=ss.map V.str) (fun i ys H'=>Same H H'/\Paired (TrAt H') ys (ts.take i)) ⟨Same.refl _,.nil⟩ (lk (by rw[qlm];omega)) (fun i ys H' ⟨_,e⟩=>by rw[Paired.length e,List.length_take];omega) (fun i ys H' ⟨s',_⟩=>SqL.of (s' _ _ hl)) ?_ ?_
 . rintro i y ys H1 hi ⟨s1,hY⟩
   rw[qgm]at hi
   obtain⟨x,hx,rfl⟩:∃ x,ss[i]? = some x/\y=V.str x:=by
    cases q:ss[i]? with
    |none=>rw[q]at hi;cases hi
    |some c=>rw[q]at hi;exact⟨c,rfl,(qsi hi).symm⟩
   obtain⟨tr,htr,h1,h2,h3⟩:=bQ hP i x hx;refine⟨trivial,_,rfl,x,rfl,h1,h2,fun H2 s2=>?_⟩;rw[h3];intro v hv;refine⟨s1.trans s2,?_⟩;rw[qta,htr];exact dM (Paired.mapP hY fun _ _ z=>z.mono s2.tups) (.cons hv .nil)
 rintro ys H1 ⟨s1,hY⟩ tl htl;have el:(ss.map V.str).length=ts.length:=by rw[qlm,Paired.length hP]
 rw[el,List.take_length]at hY;have s2:=s1.trans (aD (o:=.lst ys) htl);have htl2:(upd H1 tl (.lst ys)) tl=some (.lst ys):=au;have hY2:Paired (TrAt (upd H1 tl (.lst ys))) ys ts:=Paired.mapP hY fun _ _ z=>z.mono (aD htl).tups
 generalize upd H1 tl (.lst ys)=H2 at s2 htl2 hY2 ⊢;have U2:=U.mono s2;have hq2:=s2 _ _ hq;have hm2:=hm.same s2;rcases k with⟨rs',hD,k⟩|⟨L,txt,hK,hL,k⟩
 . -- a deed
   obtain⟨f,fd,ps,hvd,hva,hnk,F,hk,hbd,hps⟩:∃(f:Addr) (fd:FuncData) (ps:List Str),bY (Oj t) (Sum.inr kd:Key)=some (V.ref f)/\bY (MT t) (Sum.inr kd:Key)=none/\¬ kd="keep"/\FO P w K mg base 123 f fd ps (spDe t (sU kd))/\W.keepIn K (.ref f)=true/\Binds K fd ps []/\True:=by
    rcases hD with⟨rfl,_⟩|⟨rfl,_⟩|⟨rfl,_⟩
    . refine⟨t.a76,t.d76,_,by kernel_rfl,by kernel_rfl,by decide +kernel,(Ew T).imp (fun vs H Q E h=>?_),T.q76.k,T.q76.b,trivial⟩
      obtain⟨g,bl,mv,bv,xs,ms,a,np,r,l,rs,rs',ns,pay,us,ts,e1,e2,e3,e4,e5,e6,e7,e8,e9,e10,e11,e12,e13⟩:=h;refine⟨g,bl,mv,bv,xs,ms,a,np,r,l,rs,rs',ns,pay,us,ts,e1,e2,e3,e4,e5,e6,e7,e8,e9,e10,e11,?_,e13⟩;rcases e12 with⟨_,h⟩|⟨z,_⟩|⟨z,_⟩
      . exact h
      . exact absurd z (by decide +kernel)
      . exact absurd z (by decide +kernel)
    . refine⟨t.a77,t.d77,_,by kernel_rfl,by kernel_rfl,by decide +kernel,(Ex T).imp (fun vs H Q E h=>?_),T.q77.k,T.q77.b,trivial⟩
      obtain⟨g,bl,mv,bv,xs,ms,a,np,r,l,rs,rs',ns,pay,us,ts,e1,e2,e3,e4,e5,e6,e7,e8,e9,e10,e11,e12,e13⟩:=h;refine⟨g,bl,mv,bv,xs,ms,a,np,r,l,rs,rs',ns,pay,us,ts,e1,e2,e3,e4,e5,e6,e7,e8,e9,e10,e11,?_,e13⟩;rcases e12 with⟨z,_⟩|⟨_,h⟩|⟨z,_⟩
      . exact absurd z (by decide +kernel)
      . exact h
      . exact absurd z (by decide +kernel)
    . refine⟨t.a78,t.d78,_,by kernel_rfl,by kernel_rfl,by decide +kernel,(Ey T).imp (fun vs H Q E h=>?_),T.q78.k,T.q78.b,trivial⟩
      obtain⟨g,bl,mv,bv,xs,ms,a,np,r,l,rs,rs',ns,pay,us,ts,e1,e2,e3,e4,e5,e6,e7,e8,e9,e10,e11,e12,e13⟩:=h;refine⟨g,bl,mv,bv,xs,ms,a,np,r,l,rs,rs',ns,pay,us,ts,e1,e2,e3,e4,e5,e6,e7,e8,e9,e10,e11,?_,e13⟩;rcases e12 with⟨z,_⟩|⟨z,_⟩|⟨_,h⟩
      . exact absurd z (by decide +kernel)
      . exact absurd z (by decide +kernel)
      . exact h
   refine⟨_,rfl,rfl,_,rfl,aU (fun z=>absurd (V.str.inj (qod z)) hnk) (fun _=>?_)⟩;refine⟨_,rfl,.inr kd,rfl,rfl,_,rfl,?_⟩;rw[show bY _ (Sum.inr kd:Key)=none from hva];refine bz ?_;refine⟨_,rfl,.inr kd,V.ref f,rfl,rfl,hvd,f,CX1 P w,123,fd,ps,spDe t (sU kd),_,rfl,F,hr,hk,hbd,aJ,_,rfl,_,rfl,q,_,1,pay,rfl,rfl,SqT.of hq2,rfl,_,rfl,?_⟩;refine⟨g,bl,mv,bv,xs,ms,a,np,r,tl,rs,rs',ns,pay,ys,ts,rfl,U2,h400,hm2,hM,s2 _ _ hnp,h8,hnd,htl2,hY2,hok,hD,fun b q' bl' H3 kp U3 hm3=>?_⟩;refine⟨_,rfl,g.c,t.zb,g.cx,_,_,rfl,U3.co,T.zk,T.zO,JB _ _ _ _,.inl ⟨rfl,_,SqL.of U3.mb⟩,?_⟩;refine⟨_,rfl,g.c,t.zb,g.cx,_,_,rfl,U3.co,T.zk,T.zz,sS _ _ _ _,g.p,g.dx,_,rfl,U3.lg.ob,iU _ _ (by decide +kernel) (by decide +kernel),g.p,g.dx,g.sl,bl',mv++[.ref a],[],.ref b,rfl,U3.lg,g.ml,_,_,rfl,rfl,U3.mb,dO (by omega),?_⟩;exact k b q' bl' _ (KeepC.ahead s2 (kp.trans (yW U3 (.ref b)).2)) (yW U3 (.ref b)).1 (hm3.otherI U3.mb (fun _ z=>by cases z))
 . -- an answer
   obtain⟨hnk,_,_,f,fd,hv,F,hk,hbd⟩:=hA kd L hK;refine⟨_,rfl,rfl,_,rfl,aU (fun z=>absurd (V.str.inj (qod z)) hnk) (fun _=>?_)⟩;refine⟨_,rfl,.inr kd,rfl,rfl,_,rfl,?_⟩;rw[show bY _ (Sum.inr kd:Key)=some (V.ref f)from hv];refine bT ?_;refine⟨_,rfl,g.c,t.zb,g.cx,_,_,rfl,U2.co,T.zk,T.zN,Jz _ _ _ _,.inl ⟨rfl,_,SqL.of U2.an⟩,?_⟩;refine⟨_,rfl,.inr kd,V.ref f,rfl,rfl,hv,f,CX1 P w,123,fd,_,spAn L,_,rfl,F,hr,hk,hbd,aJ,?_⟩;refine⟨_,rfl,g.c,t.zb,g.cx,_,_,rfl,U2.co,T.zk,T.zz,sS _ _ _ _,g.p,g.dx,_,rfl,U2.lg.ob,iU _ _ (by decide +kernel) (by decide +kernel),g.p,g.dx,g.sl,bl,mv,bv,.ref a,rfl,U2.lg,_,rfl,?_⟩;refine⟨a,np,r,tl,rs,ys,ns,ts,txt,rfl,hm2,hM,s2 _ _ hnp,h8,hnd,htl2,hY2,hok,hL,fun H3 s3=>?_⟩;have U3:=U2.mono s3;refine⟨g.al,_,_,rfl,rfl,U3.an,dO (by rw[qlm];omega),?_⟩;exact k _ (KeepC.ahead (s2.trans s3) (Ez U3 txt).2) (Ez U3 txt).1 ((hm2.same s3).otherI U3.an (fun _ z=>by cases z))
inductive spLacks(t:Adr)(vs:List V)(H:Hp)(Q:VK)(E:XK):Prop
 |mk (c q l:Addr) (kd:Str) (pay:V) (_:vs=[.ref c,.ref q]) (_:H q=some (.tup [.str kd,pay,.ref l])) (_:¬ kd="pour") (_:Q (.bl false) H)
theorem scLacks:FnScope ["course","form"] ["course","form"] (aB S87):=mkS
theorem Il(T:Txt P w K mg t):FO P w K mg base 1 t.a87 t.d87 ["course","form"] (spLacks t):=by
 refine T.q87.F.ok2 scLacks (fun cdv A outer s H vs Q E hr h=>?_);obtain⟨c,q,l,kd,pay,rfl,hq,hn,k⟩:=h;have nd:=scLacks.nd;refine⟨_,(aq (aA (ou (cF aW (pix aK (pvl 1) ak) az (aN _)) (my Gx)))),?_⟩;refine⟨_,rfl,q,_,0,_,rfl,rfl,SqT.of hq,rfl,rfl,?_⟩;have e:decide (V.str kd=V.str ("pour":Str))=false:=qdf fun z=>hn (V.str.inj z)
 try dsimp -proj -iota only
 rw[e];exact⟨false,rfl,k⟩
theorem scWordA:FnScope ["course","form"] ["course","form"] (aB S88):=mkS
theorem Im(T:Txt P w K mg t){AK:Str->gO->Prop}(hA:vR P w K mg base t AK):FO P w K mg base 125 t.a88 t.d88 ["course","form"] (spRow t AK):=by
 have G86:=Ik (base:=base) T hA;have G87:=Il (base:=base) T;refine T.q88.F.ok2 (k:=124) scWordA (fun cdv A outer s H vs Q E hr h=>?_);obtain⟨g,bl,mv,bv,xs,ms,a,np,r,q,rs,ns,kd,pay,ts,rfl,U,h400,hx4,hm4,hm,hM,hnp,h8,hnd,hF,hok,k⟩:=h;have nd:=scWordA.nd;obtain⟨l,ss,hq,_⟩:=hF.ex
 have hkd:¬ kd="names"/\¬ kd="pour":=by
  rcases k with⟨rs',hD,_⟩|⟨L,txt,hK,_⟩
  . rcases hD with⟨e,_⟩|⟨e,_⟩|⟨e,_⟩ <;> (rw[e];exact⟨by decide +kernel,by decide +kernel⟩)
  . exact⟨(hA kd L hK).2.1,(hA kd L hK).2.2.1⟩
 refine⟨_,(ao (aV (PW.pt (gm (aH gR (pvl 1) bK (aN _)) (gP (aH aW (pix aK (pvl 1) ak) az (aN _)))))
    (aq (aA az))
    aP)
   (ao (aV (g8 (aQ G87 (hr.mo) T.q87.m T.q87.k T.q87.b aJ (aa (pvl 0) (aa (pvl 1) aj))) (fun _=>rfl))
    (aq (aA az))
    aP)
   (ao (yI (wB (Gp (Dh G86 (hr.mo) T.q86.m T.q86.k T.q86.b (aa (pvl 0) (aa (pvl 1) aj)))))
    (.cons T.zu T.zal (by kernel_rfl) (by kernel_rfl) (fun e=>(aq (aA az))) (.cons T.zW T.zam (by kernel_rfl) (by kernel_rfl) (fun e=>(aq (aA az))) (.cons T.zV T.zak (by kernel_rfl) (by kernel_rfl) (fun e=>(aq (aA az))) (.cons T.zI T.zS (by kernel_rfl) (by kernel_rfl) (fun e=>(aq (aA az))) (.cons T.zK T.zT (by kernel_rfl) (by kernel_rfl) (fun e=>(aq (aA az))) (.cons T.zaC T.zaj (by kernel_rfl) (by kernel_rfl) (fun e=>(aq (aA az))) (.cons T.zaB T.zai (by kernel_rfl) (by kernel_rfl) (fun e=>(aq (aA az))) .nil))))))))
   (aq (aA bK))))),?_⟩
 refine⟨_,rfl,rfl,_,rfl,aU (fun z=>absurd (qod z) (by intro z;cases z)) (fun _=>?_)⟩;refine⟨_,rfl,q,_,0,_,rfl,rfl,SqT.of hq,rfl,rfl,_,rfl,aU (fun z=>absurd (V.str.inj (qod z)) hkd.1) (fun _=>?_)⟩;refine⟨_,rfl,_,rfl,g.c,q,l,kd,pay,rfl,hq,hkd.2,?_⟩;refine⟨_,rfl,?_⟩;refine⟨_,rfl,_,rfl,g,bl,mv,bv,xs,ms,a,np,r,q,rs,ns,kd,pay,ts,rfl,U,h400,hx4,hm4,hm,hM,hnp,h8,hnd,hF,hok,?_⟩;exact k
inductive Runs(AK:Str->gO->Prop)(ns:List Str):List (Str×V×List Tr)->List Int->List (List Int)->List Str->Prop
 |nil (rs:List Int):Runs AK ns [] rs [] []
 |deed {kd:Str} {pay:V} {ts:List Tr} {rs rs':List Int} {rws:List (Str×V×List Tr)} {mss:List (List Int)} {xs:List Str}:(∀ u∈ts,OkS u/\∀ x∈u.names,x∈ns)->sU kd ns rs pay ts rs'->Mind ns rs'->Runs AK ns rws rs' mss xs->Runs AK ns ((kd,pay,ts):: rws) rs (rs'::mss) xs
 |ans {kd:Str} {pay:V} {ts:List Tr} {rs:List Int} {L:gO} {txt:Str} {rws:List (Str×V×List Tr)} {mss:List (List Int)} {xs:List Str}:(∀ u∈ts,OkS u/\∀ x∈u.names,x∈ns)->AK kd L->L ns rs ts txt->Runs AK ns rws rs mss xs->Runs AK ns ((kd,pay,ts):: rws) rs mss (txt::xs)
def BK(r:Nat×Str)(x:Str×V×List Tr):Prop:=r.2.length<=gb/\cI r.2=x.1/\∃(O:Str->Option (V×List Str))(ss:List Str),iW x.1=some O/\O (bJ r.2)=some (x.2.1,ss)/\Paired Rd1 ss x.2.2/\ss.length<=10
def p6(H:Hp)(np:Addr)(v:V)(rs:List Int):Prop:=∃ a r,v = .ref a/\MindAt H a np r rs
inductive spRun(t:Adr)(AK:Str->gO->Prop)(vs:List V)(H:Hp)(Q:VK)(E:XK):Prop
 |mk (x:Str) (i0:Nat) (r0:Str) (rest:List (Nat×Str)) (rws:List (Str×V×List Tr)) (ns:List Str) (mss:List (List Int)) (xs:List Str) (_:vs=[.str x]) (_:x.length<=gb) (_:pZ x=(i0,r0):: rest) (_:r0.length<=gb) (_:cI r0="names") (_:fO (dq (bJ r0))=true) (_:dq (bJ r0)=ns) (_:1<=ns.length) (_:ns.length<=8) (_:ns.Nodup) (_:rest.length<=300) (_:Paired BK rest rws) (_:Runs AK ns rws (cG ns) mss xs) (_:∀(q al ml np:Addr) (ms:List V) (H':Hp),Same H H'->H' q=some (.tup [.ref al,.ref ml])->H' al=some (.lst (xs.map V.str))->H' ml=some (.lst ms)->H' np=some (.tup (ns.map V.str))->Paired (p6 H' np) ms mss->Q (.ref q) H')
theorem sV{t:Adr}{H H':Hp}{g:CA}{bl:Addr}{mv bv:List V}{xs:List Str}{ms:List V}(U:CoAt t H g bl mv bv xs ms)(k:KeepC g H H'){b:Addr}{us:List V}(h:H b=some (.tup us)):H' b=some (.tup us):=
 k _ _ h (bH h U.lg.ob (by intro z;cases z)) (bH h U.lg.st (by intro z;cases z)) (bH h U.an (by intro z;cases z)) (bH h U.mb (by intro z;cases z))
theorem sW{t:Adr}{H H':Hp}{g:CA}{bl:Addr}{mv bv:List V}{xs:List Str}{ms:List V}(U:CoAt t H g bl mv bv xs ms)(k:KeepC g H H'){np:Addr}{v:V}{rs:List Int}(h:p6 H np v rs):p6 H' np v rs:=by
 obtain⟨a,r,e,h⟩:=h;exact⟨a,r,e,sV U k h.1,sV U k h.2.1,h.2.2⟩
theorem pJ(ns:List Str):Mind ns (cG ns):=⟨List.length_replicate,fun z hz=>by rw[(List.mem_replicate.mp hz).2];exact Int.le_refl 0,List.mem_replicate.mpr ⟨by have:=Nat.one_le_two_pow (n:=ns.length);omega,rfl⟩⟩
theorem EY(v:V)(us:List V):ig (v::us) (some 1) none=us:=by
 unfold ig;simp[HT.sIx]
theorem scRun:FnScope ["text","rows","course","place","row","word"] ["text"] (aB S90):=mkS
theorem M3(T:Txt P w K mg t){AK:Str->gO->Prop}(hA:vR P w K mg base t AK):FO P w K mg base 126 t.a90 t.d90 ["text"] (spRun t AK):=by
 have G57:=Eu (base:=base) T;have G89:=xn (base:=base) T;have G75:=Ii (base:=base) T;have G88:=Im (base:=base) T hA;have G74:=Es (base:=base) T;refine T.q90.F.ok2 (k:=125) scRun (fun cdv A outer s H vs Q E hr h=>?_);obtain⟨x,i0,r0,rest,rws,ns,mss,xs,rfl,hx,hrows,hr0,hk0,hB,hns,h1,h8,hnd,h300,hS,hR,k⟩:=h;have nd:=scRun.nd
 refine ⟨_,(ao (psl 1 nd (aQ G57 (hr.mo) T.q57.m T.q57.k T.q57.b aJ (aa (pvl 0) aj)))
   (ao (psl 2 nd (Jo T.zaG G75 (hr.mo) T.zas T.q75.b aJ (aa (aQ G89 (hr.mo) T.q89.m T.q89.k T.q89.b aJ (aa (pvl 1) aj)) aj)))
   (ao (dU own1 rfl (cZ (ie tK (pvl 1) (iD ak) jY)) (mz (n:=2) rfl (bB (pgl 3 nd) (bB (pgl 4 nd) dR)))
    (ao (psl 5 nd (aQ G88 (hr.mo) T.q88.m T.q88.k T.q88.b aJ (aa (pvl 2) (aa (aQ G74 (hr.mo) T.q74.m T.q74.k T.q74.b aJ (aa (pvl 4) aj)) aj))))
    (aq (aV (aH JQ (pvl 5) bK (aN _))
     (aq qy)
     aP))))
   (aq (aA (bw (aa (bN (pvl 2) rfl) (aa (bN (pvl 2) rfl) aj)))))))),?_⟩
 refine⟨_,rfl,x,rfl,hx,fun rl us H1 s1 hrl hPr=>?_⟩;rw[hrows]at hPr
 obtain⟨v0,us',rfl,hv0,hPr'⟩:∃ v0 us',us=v0::us'/\RwAt H1 v0 (i0,r0)/\Paired (RwAt H1) us' rest:=by
  cases hPr with
  |cons a b=>exact⟨_,_,rfl,a,b⟩
 have hul:us'.length=rest.length:=Paired.length hPr';refine⟨_,rfl,rl,v0,us',i0,r0,rfl,hrl,by rw[hul];exact qnt h300 (by decide),hv0,hr0,hk0,hB,fun np H2 s2 hnp=>?_⟩;rw[hns]at hnp;have hrl2:=s2 _ _ hrl;have hPr2:Paired (RwAt H2) us' rest:=Paired.mapP hPr' fun _ _ z=>z.mono s2
 have s02:Same H H2:=fun b o e=>s2 _ _ (s1 _ _ e)
 intro c cx hc hcx hccx;have hnpc:np≠c:=aM hnp hc;have hnpx:np≠cx:=aM hnp hcx;refine⟨c,cx,np,ns,rfl,au,by rw[aF hnpc,aF hnpx];exact hnp,h1,h8,fun p dx sl kp al ml bl m r H3 U hm hp hsl hal hml keep=>⟨rfl,?_⟩⟩;have s23:Same H2 H3:=fun b o e=>keep b o (by rw[aF (aM e hc),aF (aM e hcx)];exact e) (aM e hc)
 have fr:∀ b,(upd (upd H2 cx (.own c)) c (.ins t.zb cx [])) b=none->H2 b=none:=fun b e=>by
  by_cases e1:b=c
  . rw[e1]at e;rw[au]at e;cases e
  . rw[aF e1]at e
    by_cases e2:b=cx
    . rw[e2]at e;rw[au]at e;cases e
    . rw[aF e2]at e;exact e
 have hp2:=fr _ hp;have hsl2:=fr _ hsl;have hal2:=fr _ hal;have hml2:=fr _ hml;have hrl3:=s23 _ _ hrl2;have lift:∀{Ha Hb:Hp},Same H2 Ha->KeepC ⟨c,cx,p,dx,sl,kp,al,ml⟩ Ha Hb->Same H2 Hb:=fun sa kc b o e=>kc b o (sa _ _ e) (aM e hp2) (aM e hsl2) (aM e hal2) (aM e hml2)
 refine⟨_,rfl,_,rfl,rl,_,rfl,SqL.of hrl3,fun rl2 hrl2'=>?_⟩;have ec:ig (v0::us') (some 1) none=us':=EY v0 us';rw[ec];have s34:=aD (o:=.lst us') hrl2';have hrl4:(upd H3 rl2 (.lst us')) rl2=some (.lst us'):=au;have n1:rl2≠p:=Ne.symm (aM U.lg.ob hrl2');have n2:rl2≠sl:=Ne.symm (aM U.lg.st hrl2');have n3:rl2≠al:=Ne.symm (aM U.an hrl2');have n4:rl2≠ml:=Ne.symm (aM U.mb hrl2');have U4:=U.mono s34;have hm4:=hm.same s34;have s24:=s23.trans s34;generalize upd H3 rl2 (.lst us')=H4 at hrl4 U4 hm4 s24 ⊢;have hl0:rest.length=rws.length:=Paired.length hS
 refine⟨rl2,rfl,⟨_,SqL.of hrl4⟩,gw (K:=K) (a:=rl2) (xs:=us')
  (fun i σ H'=>∃(o3 o4 o5:Option V)(bl:Addr)(mv bv:List V)(a r:Addr)(rs:List Int)(x1 x2:List Str)(ms:List V)(m1 m2:List (List Int)),σ=[some (.str x),some (.ref rl),some (.ref c),o3,o4,o5]/\Same H2 H'/\H' rl2=some (.lst us')/\CoAt t H' ⟨c,cx,p,dx,sl,kp,al,ml⟩ bl (mv++[.ref a]) bv x1 ms/\mv.length<=i/\MindAt H' a np r rs/\Mind ns rs/\Paired (p6 H' np) ms m1/\Runs AK ns (rws.drop i) rs m2 x2/\mss=m1++m2/\xs=x1++x2/\x1.length<=i/\m1.length<=i)
  ⟨none,none,none,bl,[],[],m,r,cG ns,[],xs,[],[],mss,rfl,s24,hrl4,U4,qnr _,hm4,pJ ns,.nil,hR,rfl,rfl,qnr _,qnr _⟩ (fun i σ H' _ ⟨_,_,_,_,_,_,_,_,_,_,_,_,_,_,_,_,h,_⟩=>SqL.of h) ?_ ?_⟩
 . rintro i y σ H5 hi ⟨o3,o4,o5,bl,mv,bv,a,r,rs,x1,x2,ms,m1,m2,rfl,s25,hrl5,U5,hmv,hm5,hM,hPm,hRu,hmss,hxs,hx1,hm1⟩
   have hil:i<us'.length:=(List.getElem?_eq_some_iff.mp hi).1;obtain⟨⟨j,yt⟩,hj,q,rfl,hq⟩:=bQ hPr2 i y hi;obtain⟨⟨kd,pay,ts⟩,hrw,hyl,hfw,O,ss,hO,hOb,hPs,h10⟩:=bQ hS i (j,yt) hj;have hyl:yt.length<=gb:=hyl;have hfw:cI yt=kd:=hfw;have hO:iW kd=some O:=hO;have hOb:O (bJ yt)=some (pay,ss):=hOb;have hPs:Paired Rd1 ss ts:=hPs
   have edr:rws.drop i=(kd,pay,ts):: rws.drop (i+1):=by
    obtain⟨hlt,e⟩:=List.getElem?_eq_some_iff.mp hrw;rw[List.drop_eq_getElem_cons hlt,e]
   have hml:ms.length=m1.length:=Paired.length hPm;refine⟨q,_,rfl,SqT.of (s25 _ _ hq),rfl,_,_,rfl,_,_,rfl,rfl,?_⟩;refine⟨_,rfl,_,rfl,yt,O,rfl,hyl,by rw[hfw];exact hO,fun v H6 s6 hR6=>?_⟩;rw[hOb,hfw]at hR6;obtain⟨q6,l6,rfl,hq6,hl6⟩:=hR6;have s6:Same H5 H6:=s6;have U6:=U5.mono s6;have hm6:=hm5.same s6;have s26:=s25.trans s6;have hPm6:Paired (p6 H6 np) ms m1:=Paired.mapP hPm fun _ _ ⟨a',r',e,h⟩=>⟨a',r',e,h.same s6⟩
   rw[edr]at hRu;refine⟨⟨c,cx,p,dx,sl,kp,al,ml⟩,bl,mv,bv,x1,ms,a,np,r,q6,rs,ns,kd,pay,ts,rfl,U6,by omega,by omega,by omega,hm6,hM,s26 _ _ hnp,h8,hnd,⟨l6,ss,hq6,hl6,hPs,h10⟩,?_,?_⟩
   . cases hRu with
     |deed h _ _ _=>exact h
     |ans h _ _ _=>exact h
   . cases hRu with
     | deed hok hD hM' hrest =>
      rename_i rs' m2'
      refine .inl ⟨rs',hD,fun b q' bl' H7 kc U7 hm7=>?_⟩;refine⟨_,rfl,rfl,_,rfl,aU (fun z=>absurd z (by rw[qdt rfl];decide)) (fun _=>?_)⟩;refine⟨_,_,_,bl',mv++[.ref a],[],b,q',rs',x1,x2,ms++[.ref b],m1++[rs'],m2',rfl,lift s26 kc,kc _ _ (s6 _ _ hrl5) n1 n2 n3 n4,U7,by rw[List.length_append];exact Nat.succ_le_succ hmv,hm7,hM',dM (Paired.mapP hPm6 fun _ _ z=>sW U6 kc z) (.cons ⟨b,q',rfl,hm7⟩ .nil),hrest,by rw[hmss,List.append_assoc];rfl,hxs,by omega,by rw[List.length_append];exact Nat.succ_le_succ hm1⟩
     | ans hok hK hL hrest =>
      rename_i L txt x2'
      refine .inr ⟨L,txt,hK,hL,fun H7 kc U7 hm7=>?_⟩;refine⟨_,rfl,rfl,_,rfl,aU (fun z=>absurd z (by rw[qdt rfl];decide)) (fun _=>?_)⟩;refine⟨_,_,_,bl,mv,bv,a,r,rs,x1++[txt],x2',ms,m1,m2,rfl,lift s26 kc,kc _ _ (s6 _ _ hrl5) n1 n2 n3 n4,U7,by omega,hm7,hM,Paired.mapP hPm6 fun _ _ z=>sW U6 kc z,hrest,hmss,by rw[hxs,List.append_assoc];rfl,by rw[List.length_append];exact Nat.succ_le_succ hx1,by omega⟩
 . rintro σ H5 ⟨o3,o4,o5,bl,mv,bv,a,r,rs,x1,x2,ms,m1,m2,rfl,s25,hrl5,U5,hmv,hm5,hM,hPm,hRu,hmss,hxs,hx1,hm1⟩
   have ed:rws.drop us'.length=[]:=List.drop_eq_nil_of_le (by omega);rw[ed]at hRu;cases hRu;rw[List.append_nil]at hmss hxs;subst hmss hxs;refine⟨_,rfl,c,t.zb,cx,_,_,rfl,U5.co,T.zk,T.zN,Jz _ _ _ _,_,rfl,c,t.zb,cx,_,_,rfl,U5.co,T.zk,T.zO,JB _ _ _ _,lk (by first|exact qnb rfl|simp),fun e he=>?_⟩;have s7:=aD (o:=.tup [.ref al,.ref ml]) he;exact k e al ml np ms _ ((s02.trans s25).trans s7) au (s7 _ _ U5.an) (s7 _ _ U5.mb) (s7 _ _ (s25 _ _ hnp)) (Paired.mapP hPm fun _ _ ⟨a',r',e,h⟩=>⟨a',r',e,h.same s7⟩)
theorem kY{c:Nat}:∀{u:List Nat},c∉u->∀ v,cJ c (u++c::v)=u/\cu c (u++c::v)=v
 |[],_,v=>⟨qp rfl,qp rfl⟩
 | d::u,h,v=>by
  have hd:¬ d=c:=fun e=>h (by rw[e];exact qms)
  obtain⟨h1,h2⟩:=kY (u:=u) (fun z=>h (qmm _ z)) v;refine⟨?_,?_⟩
  . show(if d=c then []else d::cJ c (u++c::v))=_
    rw[qnZ hd,h1]
  . show(if d=c then _ else cu c (u++c::v))=_
    rw[qnZ hd,h2]
theorem qW{c:Nat}:∀{u:List Nat},c∉u->cJ c u=u/\cu c u=[]
 |[],_=>⟨rfl,rfl⟩
 | d::u,h=>by
  have hd:¬ d=c:=fun e=>h (by rw[e];exact qms)
  obtain⟨h1,h2⟩:=qW (u:=u) (fun z=>h (qmm _ z));refine⟨?_,?_⟩
  . show(if d=c then []else d::cJ c u)=_
    rw[qnZ hd,h1]
  . show(if d=c then _ else cu c u)=_
    rw[qnZ hd,h2]
theorem nG{l:List Nat}(h:¬ l.head? = some 32):l.dropWhile (· == 32)=l:=by
 cases l with
 |nil=>rfl
 | cons c l =>
  rw[List.dropWhile_cons,qnZ];intro e;exact h (by rw[List.head?_cons,eq_of_beq e])
theorem pK{x:Str}{l:List Nat}(h:x.cps.toList=l):jo l=x:=jM (by rw[sy,h])
theorem ud:(" ":Str).cps.toList=[32]:=by rw[nA]
theorem iZ{u v:Str}(h:32∉u.cps.toList)(hv:¬ v.cps.toList.head? = some 32):cI (u++" "++v)=u/\bJ (u++" "++v)=v:=by
 have e:(u++" "++v:Str).cps.toList=u.cps.toList++32::v.cps.toList:=by
  rw[bR,bR,ud];simp
 unfold cI bJ;rw[e,(kY h _).1,(kY h _).2,nG hv];exact⟨pK rfl,pK rfl⟩
theorem Fb{u:Str}(h:32∉u.cps.toList):cI u=u/\bJ u="":=by
 unfold cI bJ;rw[(qW h).1,(qW h).2];exact⟨pK rfl,rfl⟩
structure Clean(p:Str):Prop where
 nl:10∉p.cps.toList
 hd:∃ c,p.cps.toList.head? = some c/\¬ c=32
 la:∃ c,p.cps.toList.getLast? = some c/\¬ c=32
theorem Clean.hd'{p:Str}(h:Clean p):¬ p.cps.toList.head? = some 32:=by
 obtain⟨c,e,hc⟩:=h.hd;rw[e];exact fun z=>hc (qsi z)
theorem lY{p:Str}(h:Clean p):gD p=p:=by
 refine jM ?_;unfold gD;rw[nA,tV,nG h.hd']
 have:¬ p.cps.toList.reverse.head? = some 32:=by
  obtain⟨c,e,hc⟩:=h.la;rw[List.head?_reverse,e];exact fun z=>hc (qsi z)
 rw[nG this,List.reverse_reverse]
theorem Io{p:Str}(h:Clean p):¬ p="":=fun e=>by
 obtain⟨c,e',_⟩:=h.hd;rw[e]at e';have:("":Str).cps.toList=[]:=by decide +kernel
 rw[this]at e';cases e'
theorem KH{xs ys:List Str}(h:xs.map (·.cps.toList)=ys.map (·.cps.toList)):xs=ys:=by
 induction xs generalizing ys with
 | nil=>cases ys with
  |nil=>rfl
  |cons y ys=>cases h
 | cons x xs ih=>cases ys with
  |nil=>cases h
  | cons y ys =>
   rw[List.map_cons,List.map_cons,List.cons.injEq]at h;rw[jM h.1,ih h.2]
theorem sX(c:Nat){ps:List Str}(hne:ps≠[])(h:∀ p∈ps,c∉p.cps.toList):Txt.split (Txt.join ⟨#[c]⟩ ps) ⟨#[c]⟩=ps:=by
 have e:Txt.join ⟨#[c]⟩ ps=Str.join ⟨#[c]⟩ ps:=StrLaws.glued_eq_join _ _;refine KH ?_;rw[Kc,e,lW c ps hne h]
theorem KJ{ps:List Str}(hne:ps≠[])(h:∀ p∈ps,Clean p):pZ (Txt.join "\n" ps)=ps.zipIdx.map fun(x:Str×Nat)=>(x.2,x.1):=by
 have e:Txt.split (Txt.join "\n" ps) "\n"=ps:=by
  rw[MN];exact sX 10 hne fun p hp=>(h p hp).nl
 unfold pZ gZ;rw[e]
 have e2:(ps.zipIdx.map fun p=>(p.2,gD p.1))=ps.zipIdx.map fun(x:Str×Nat)=>(x.2,x.1):=List.map_congr_left fun x hx=>by
  have hm:x.1∈ps:=by
   have:=List.mem_zipIdx hx;rw[this.2.2];exact List.getElem_mem _
  rw[lY (h _ hm)]
 rw[e2,List.filter_eq_self];intro r hr;obtain⟨x,hx,rfl⟩:=List.mem_map.mp hr
 have hm:x.1∈ps:=by
  have:=List.mem_zipIdx hx;rw[this.2.2];exact List.getElem_mem _
 show(!decide (x.1=""))=true;rw[qdf (Io (h _ hm))]
 rfl
theorem iJ{u v:Str}(h1:10∉u.cps.toList)(h2:∃ c,u.cps.toList.head? = some c/\¬ c=32)(hv:Clean v):Clean (u++" "++v):=by
 have e:(u++" "++v:Str).cps.toList=u.cps.toList++32::v.cps.toList:=by
  rw[bR,bR,ud];simp
 refine⟨?_,?_,?_⟩
 . rw[e]
   intro z;rcases List.mem_append.mp z with z|z
   . exact h1 z
   . rcases List.mem_cons.mp z with z|z
     . exact absurd z (by decide)
     . exact hv.nl z
 . obtain⟨c,h,hc⟩:=h2
   refine⟨c,?_,hc⟩;rw[e];cases hu:u.cps.toList with
   |nil=>rw[hu]at h;cases h
   |cons d r=>rw[hu]at h;exact h
 . obtain⟨c,h,hc⟩:=hv.la
   refine⟨c,?_,hc⟩;rw[e,List.getLast?_append,List.getLast?_cons];rw[h]
   rfl
theorem Fd{x:Str}(h:isName x=true){c:Nat}(hc:cV c=false):c∉x.cps.toList:=fun z=>by
 unfold isName at h;have:cV c=true:=List.all_eq_true.mp (Bool.and_eq_true_iff.mp h).2 c z;rw[hc]at this;cases this
theorem words_of{ns:List Str}(hne:ns≠[])(h:∀ n∈ns,isName n=true):dq (Txt.join " " ns)=ns:=by
 have hb:∀ n∈ns,32∉n.cps.toList/\¬ n="":=fun n hn=>by
  have:=h n hn;refine⟨fun z=>?_,fun z=>?_⟩
  . exact Fd this (c:=32) (by decide) z
  . rw[z]at this
    exact absurd this (by decide +kernel)
 unfold dq
 have e:Txt.split (Txt.join " " ns) " "=ns:=by
  rw[nA];exact sX 32 hne fun p hp=>(hb p hp).1
 rw[e,List.filter_eq_self];intro n hn;rw[qdf (hb n hn).2]
 rfl
def cL:Nat->Nat->List Nat
 | 0,n=>[48+n % 10]
 |k+1,n=>if n<10 then [48+n]else cL k (n / 10)++[48+n % 10]
theorem ue:∀ d:Nat,d<10->(Nat.digitChar d).toNat=48+d:=by decide
theorem qX:∀(k n:Nat),n<10 ^ (k+1)->(Nat.toDigits 10 n).map Char.toNat=cL k n
 | 0,n,h=>by
  have h:n<10:=h;rw[Nat.toDigits_of_lt_base h];show [(Nat.digitChar n).toNat]=[48+n % 10]
  rw[ue n h,Nat.mod_eq_of_lt h]
 | k + 1,n,h=>by
  show _=if n<10 then [48+n]else cL k (n / 10)++[48+n % 10]
  by_cases hn:n<10
  . rw[qp hn,Nat.toDigits_of_lt_base hn]
    show [(Nat.digitChar n).toNat]=_;rw[ue n hn]
  . rw[qnZ hn]
    have h1:n / 10<10 ^ (k+1):=by
     rw[Nat.div_lt_iff_lt_mul (by decide),<- Nat.pow_succ];exact h
    have h2:n % 10<10:=Nat.mod_lt _ (by decide);have h3:0<n / 10:=by omega
    have e:10 * (n / 10)+n % 10=n:=Nat.div_add_mod n 10;have:=Nat.toDigits_append_toDigits (b:=10) (n:=n / 10) (d:=n % 10) (by decide) h3 h2;rw[e]at this;rw[<- this,List.map_append,qX k _ h1,Nat.toDigits_of_lt_base h2];show _++[(Nat.digitChar (n % 10)).toNat]=_;rw[ue _ h2]
theorem xr:∀(k n:Nat),n<10 ^ (k+1)->fX (cL k n)=n
 | 0,n,h=>by
  have h:n<10:=h;show 0 * 10+(48+n % 10 - 48)=n;rw[Nat.mod_eq_of_lt h];omega
 | k + 1,n,h=>by
  show fX (if n<10 then [48+n]else cL k (n / 10)++[48+n % 10])=n
  by_cases hn:n<10
  . rw[qp hn]
    show 0 * 10+(48+n - 48)=n;omega
  . rw[qnZ hn]
    have h1:n / 10<10 ^ (k+1):=by
     rw[Nat.div_lt_iff_lt_mul (by decide),<- Nat.pow_succ];exact h
    unfold fX;rw[List.foldl_append];show fX (cL k (n / 10)) * 10+(48+n % 10 - 48)=n;rw[xr k _ h1];omega
theorem iu:∀(k n:Nat),1<=(cL k n).length /\ (cL k n).length <= k+1
 | 0,n=>⟨qnr _,qnr _⟩
 | k + 1,n=>by
  have:=iu k (n / 10);show 1<=(if n<10 then [48+n]else cL k (n / 10)++[48+n % 10]).length /\ (if n<10 then [48+n]else cL k (n / 10)++[48+n % 10]).length <= k+1+1
  split
  . exact⟨qnr _,by simp⟩
  . rw[List.length_append]
    show 1<=_+1/\_+1<=_;omega
theorem nH:∀(k n:Nat),∀ c∈cL k n,48<=c/\c<=57
 | 0,n=>fun c hc=>by
  have hc:c=48+n % 10:=List.mem_singleton.mp hc;omega
 | k + 1,n=>fun c hc=>by
  have hc:c∈(if n<10 then [48+n]else cL k (n / 10)++[48+n % 10]):=hc
  split at hc
  . have:=List.mem_singleton.mp hc
    omega
  . rcases List.mem_append.mp hc with hc|hc
    . exact nH k _ c hc
    . have:=List.mem_singleton.mp hc
      omega
theorem u9:∀(k n:Nat),0<n->n<10 ^ (k+1)->∃ c r,cL k n=c::r/\¬ c=48
 | 0,n,h0,h=>⟨48+n % 10,[],rfl,by have h:n<10:=h;rw[Nat.mod_eq_of_lt h];omega⟩
 | k + 1,n,h0,h=>by
  show ∃ c r,(if n<10 then [48+n]else cL k (n / 10)++[48+n % 10])=c::r/\¬ c=48
  split
  . exact⟨48+n,[],rfl,by omega⟩
  . have h1:n / 10<10 ^ (k+1):=by
     rw[Nat.div_lt_iff_lt_mul (by decide),<- Nat.pow_succ];exact h
    obtain⟨c,r,e,hc⟩:=u9 k (n / 10) (by omega) h1;exact⟨c,r++[48+n % 10],by rw[e];rfl,hc⟩
def BL(n:Nat):List Nat:=cL 29 n
def eF(i:Int):Str:=((toString i:String):Str)
theorem iw{n:Nat}(h:n<10 ^ 30):(eF (n:Int)).cps.toList=BL n:=by
 show(Str.ofString (toString (n:Int))).cps.toList=_;rw[Str.ofString_eq_toList];show((toString (n:Int)).toList.map Char.toNat)=_;have e:toString (n:Int)=String.ofList (Nat.toDigits 10 n):=rfl;rw[e,String.toList_ofList];exact qX 29 n h
theorem kZ{n:Nat}(h:n+1<10 ^ 30):(eF (-((n+1:Nat):Int))).cps.toList=45::BL (n+1):=by
 show(Str.ofString (toString (-((n+1:Nat):Int)))).cps.toList=_;rw[Str.ofString_eq_toList];show((toString (-((n+1:Nat):Int))).toList.map Char.toNat)=_;have e:toString (-((n+1:Nat):Int))="-"++String.ofList (Nat.toDigits 10 (n+1)):=rfl;rw[e,String.toList_append,List.map_append,String.toList_ofList (l:=Nat.toDigits 10 (n+1)),qX 29 (n+1) h]
 rfl
theorem nJ{x:Str}{n:Nat}(hx:x.cps.toList=BL n)(h:n<10 ^ 30):gr x=true/\fX x.cps.toList=n:=by
 have hl:=iu 29 n;have hf:=nH 29 n;have el:x.length=x.cps.toList.length:=Array.length_toList.symm;have hl':x.cps.toList.length=(cL 29 n).length:=by rw[hx];rfl
 refine⟨?_,by rw[hx];exact xr 29 n h⟩;unfold gr;rw[qdt (show(1:Int)<=(x.length:Int)by omega),qdt (show(x.length:Int)<=30 by omega)]
 have ha:x.cps.toList.all gM=true:=by
  rw[List.all_eq_true,hx];intro c hc;have:=hf c hc;unfold gM;rw[qdt this.1,qdt this.2]
  rfl
 rw[ha];show(!(decide (x.cps.toList.head? = some 48) && !decide (x="0")))=true
 by_cases h0:n=0
 . have ex:x="0":=jM (by rw[hx,h0,jL];decide)
   rw[qdt ex];simp
 . obtain⟨c,r,e,hc⟩:=u9 29 n (by omega) h
   have:¬ x.cps.toList.head? = some 48:=by
    rw[hx];show ¬ (cL 29 n).head? = some 48;rw[e];exact fun z=>hc (qsi z)
   rw[qdf this]
   rfl
theorem xu{x:Str}{r:List Nat}(h:x.cps.toList=45::r):Txt.startswith x "-"=true:=by
 have e:("-":Str)=⟨#[45]⟩:=by decide +kernel
 rw[e];obtain⟨h1,h2⟩:=(StrLaws.subAt_one x 45 0).mpr (by rw[h];rfl);exact Bool.and_eq_true_iff.mpr ⟨qdt h1,h2⟩
theorem Fe{x:Str}(h:¬ x.cps.toList.head? = some 45):¬ Txt.startswith x "-"=true:=by
 have e:("-":Str)=⟨#[45]⟩:=by decide +kernel
 rw[e];intro z;obtain⟨z1,z2⟩:=Bool.and_eq_true_iff.mp z;have:=(StrLaws.subAt_one x 45 0).mp ⟨qod z1,z2⟩;exact h (by rw[List.head?_eq_getElem?];exact this)
theorem KN(x:Str):(dC x (some 1) none).cps.toList=x.cps.toList.drop 1:=by
 rw[fD];have e:x.length=x.cps.toList.length:=Array.length_toList.symm;rw[e];generalize x.cps.toList=l;cases l with
 |nil=>rfl
 |cons c r=>simp[HT.sIx]
theorem Ff{n:Nat}(h0:0<n)(h:n<10 ^ 30):iV (eF (n:Int)) = .int (n:Int):=by
 obtain⟨h1,h2⟩:=nJ (iw h) h;unfold iV;rw[qp h1,h2,qnZ (by omega)]
theorem Fg{i:Int}(h1 : -(10 ^ 30)<i)(h2:i<10 ^ 30):lO (eF i) = .int i:=by
 unfold lO;rcases Int.lt_or_le i 0 with hi|hi
 . obtain⟨n,rfl⟩:∃ n:Nat,i = -((n+1:Nat):Int):=⟨(-i).toNat - 1,by omega⟩
   have hn:n+1<10 ^ 30:=by omega
   have e:=kZ hn;have hs:Txt.startswith (eF (-((n+1:Nat):Int))) "-"=true:=xu e;rw[qp hs];have ec:(dC (eF (-((n+1:Nat):Int))) (some 1) none).cps.toList=BL (n+1):=by rw[KN,e];rfl
   obtain⟨q1,q2⟩:=nJ ec hn;unfold iV;rw[qp q1,q2,qnZ (by omega)]
   rfl
 . obtain⟨n,rfl⟩:∃ n:Nat,i=(n:Int):=⟨i.toNat,by omega⟩
   have hn:n<10 ^ 30:=by omega
   obtain⟨q1,q2⟩:=nJ (iw hn) hn
   have hs:¬ Txt.startswith (eF (n:Int)) "-"=true:=Fe (by
    rw[iw hn];have hf:=nH 29 n;have hl:=iu 29 n;show ¬ (cL 29 n).head? = some 45;cases hq:cL 29 n with
    |nil=>rw[hq]at hl;exact absurd hl.1 (by decide)
    | cons c r =>
     have:=hf c (by rw[hq];exact qms);intro z;have:=qsi z
     omega)
   rw[qnZ hs];unfold qR;rw[qp q1,q2]
def opG:Op->Str
 | .and => "&"
 | .or => "|"
 | .thn => ">"
 | .same => "="
def opC:Op->Nat
 | .and=>38
 | .or=>124
 | .thn=>62
 | .same=>61
theorem BP(o:Op):opG o=⟨#[opC o]⟩:=by cases o <;> decide +kernel
theorem xx(o:Op):cD (opG o):=by
 cases o
 . exact .inl rfl
 . exact .inr (.inl rfl)
 . exact .inr (.inr (.inl rfl))
 . exact .inr (.inr (.inr rfl))
theorem M4(o:Op):pC (opG o)=o:=by cases o <;> decide +kernel
def wrT:Tr->Str
 | .nm x=>x
 | .yes => "1"
 | .no => "0"
 | .not a => "~"++wrT a
 | .bin o a b => "("++wrT a++" "++opG o++" "++wrT b++")"
def dJ(t:Tr):Prop:=∀ x∈t.names,isName x=true
theorem mO(a:Tr):(wrT (.not a)).cps.toList=126::(wrT a).cps.toList:=by
 show("~"++wrT a:Str).cps.toList=_;rw[bR,xg]
 rfl
theorem mQ(o:Op)(a b:Tr):(wrT (.bin o a b)).cps.toList=40::(((wrT a).cps.toList++[32])++opC o::(32::(wrT b).cps.toList))++[41]:=by
 show("("++wrT a++" "++opG o++" "++wrT b++")":Str).cps.toList=_;rw[bR,bR,bR,bR,bR,bR,xf,yU,KC,BP];simp
theorem lQ:∀{tr:Tr},dJ tr->∃ ws,dm (wrT tr).cps.toList ws/\Wr 5 tr ws
 | .nm x,h=>by
  have hx:=h x qms;exact⟨[x],Kz hx,.leaf (Em hx) (by rw[xg];exact pY hx (by decide)) (by rw[xf];exact pY hx (by decide))⟩
 | .yes,_=>⟨[⟨#[49]⟩],by show dm ("1":Str).cps.toList _;rw[nq];exact yS ⟨by decide,by decide⟩,by rw[<- nq];exact .leaf (by unfold gq;rw[qp rfl]) (by decide +kernel) (by decide +kernel)⟩
 | .no,_=>⟨[⟨#[48]⟩],by show dm ("0":Str).cps.toList _;rw[jL];exact yS ⟨by decide,by decide⟩,by rw[<- jL];exact .leaf (by unfold gq;rw[qnZ (by decide +kernel),qp rfl]) (by decide +kernel) (by decide +kernel)⟩
 | .not a,h=>by
  obtain⟨ws,h1,h2⟩:=lQ (tr:=a) h;refine⟨⟨#[126]⟩:: ws,?_,?_⟩
  . rw[mO]
    exact Ek ⟨by decide,by decide⟩ h1
  . rw[<- xg]
    exact .not h2
 | .bin o a b,h=>by
  obtain⟨w1,h1,h2⟩:=lQ (tr:=a) fun x hx=>h x (qal _ hx)
  obtain⟨w2,h3,h4⟩:=lQ (tr:=b) fun x hx=>h x (qar _ hx)
  have ho:isSign (opC o):=by cases o <;> exact⟨by decide,by decide⟩
  refine⟨⟨#[40]⟩:: ((w1++opG o::w2)++[⟨#[41]⟩]),?_,?_⟩
  . rw[mQ,BP]
    refine Ky (ws:=⟨#[40]⟩:: (w1++⟨#[opC o]⟩:: w2)) ⟨by decide,by decide⟩ ?_;exact Ek ⟨by decide,by decide⟩ (MJ ho (El h1) (HS h3))
  . rw[<- xf,<- yU]
    have hb:=wX (xx o);have:=Wr.bin (n:=0) (xx o) (by have:=Mz (xx o);omega) ⟨by omega,fun _=>by omega⟩ ⟨by omega,fun _=>by omega⟩ h2 h4;rw[M4]at this;exact .bra this
def okC(c:Nat):Prop:=cV c=true\/c=49\/c=48\/c=126\/c=40\/c=41\/c=32\/c=38\/c=124\/c=62\/c=61
theorem jr:∀{tr:Tr},dJ tr->∀ c∈(wrT tr).cps.toList,okC c
 | .nm x,h,c,hc=>by
  have hx:=h x qms;unfold isName at hx;exact .inl (List.all_eq_true.mp (Bool.and_eq_true_iff.mp hx).2 c hc)
 | .yes,_,c,hc=>by
  have hc:c∈("1":Str).cps.toList:=hc;rw[nq]at hc;exact .inr (.inl (List.mem_singleton.mp hc))
 | .no,_,c,hc=>by
  have hc:c∈("0":Str).cps.toList:=hc;rw[jL]at hc;exact .inr (.inr (.inl (List.mem_singleton.mp hc)))
 | .not a,h,c,hc=>by
  rw[mO]at hc;rcases List.mem_cons.mp hc with rfl|hc
  . simp[okC]
  . exact jr (tr:=a) h c hc
 | .bin o a b,h,c,hc=>by
  rw[mQ]at hc;have ho:okC (opC o):=by cases o <;> simp[okC,opC]
  simp only[List.mem_append,List.mem_cons,List.not_mem_nil,or_false,List.cons_append]at hc;rcases hc with rfl | ((hc|rfl) | (rfl | (rfl|hc)))|rfl
  . simp[okC]
  . exact jr (tr:=a) (fun x hx=>h x (qal _ hx)) c hc
  . simp[okC]
  . exact ho
  . simp[okC]
  . exact jr (tr:=b) (fun x hx=>h x (qar _ hx)) c hc
  . simp[okC]
theorem qY{c:Nat}(h:okC c):¬ c=10/\¬ c=58/\c<16 ^ 8:=by
 have e:16 ^ 8=4294967296:=by decide
 rcases h with h|h|h|h|h|h|h|h|h|h|h
 . unfold cV at h
   obtain⟨h1,h2⟩:=Bool.and_eq_true_iff.mp h;have h1:=qod h1;have h2:=qod h2;omega
 all_goals omega
def jb:Nat->Nat
 | 0=>0
 | 1=>8
 |d+2=>2 * jb (d+1)+5
theorem vd:∀ d,1<=d->8<=jb d
 | 1,_=>qnr _
 | d+2,_=>by
  have:=vd (d+1) (by omega);show 8<=2 * jb (d+1)+5;omega
theorem jc:∀{d e:Nat},d<=e->jb d<=jb e
 | 0,e,_=>qnz _
 | 1,e,h=>vd e h
 |d+2,0,h=>absurd h (by omega)
 |d+2,1,h=>absurd h (by omega)
 | d+2,e+2,h=>by
  have:=jc (d:=d+1) (e:=e+1) (by omega);show 2 * jb (d+1)+5<=2 * jb (e+1)+5;omega
theorem pL:∀{tr:Tr},dJ tr->(wrT tr).cps.toList.length<=jb tr.depth
 | .nm x,h=>by
  have hx:=h x qms;unfold isName at hx;have:=qod (Bool.and_eq_true_iff.mp (Bool.and_eq_true_iff.mp hx).1).2;have e:x.length=x.cps.toList.length:=Array.length_toList.symm;show x.cps.toList.length<=8;omega
 | .yes,_=>by
  show("1":Str).cps.toList.length<=8;rw[nq]
  decide
 | .no,_=>by
  show("0":Str).cps.toList.length<=8;rw[jL]
  decide
 | .not a,h=>by
  have:=pL (tr:=a) h;have hp:=a.depth_pos;obtain⟨d,hd⟩:∃ d,a.depth=d+1:=⟨a.depth - 1,by omega⟩
  have e:(Tr.not a).depth=d+2:=by show a.depth+1=_;omega
  rw[mO,e];rw[hd]at this;show(wrT a).cps.toList.length+1<=2 * jb (d+1)+5;omega
 | .bin o a b,h=>by
  have h1:=pL (tr:=a) fun x hx=>h x (qal _ hx)
  have h2:=pL (tr:=b) fun x hx=>h x (qar _ hx)
  have hp:=a.depth_pos;obtain⟨d,hd⟩:∃ d,max a.depth b.depth=d+1:=⟨max a.depth b.depth - 1,by omega⟩
  have e:(Tr.bin o a b).depth=d+2:=by show max a.depth b.depth+1=_;omega
  rw[mQ,e];have m1:=jc (d:=a.depth) (e:=d+1) (by omega);have m2:=jc (d:=b.depth) (e:=d+1) (by omega);simp only[List.length_append,List.length_cons,List.length_nil];show _<=2 * jb (d+1)+5;omega
theorem yX{tr:Tr}(h:dJ tr)(hd:tr.depth<=40)(hl:(wrT tr).cps.toList.length<=200):Rd1 (wrT tr) tr:=by
 have e:(wrT tr).length=(wrT tr).cps.toList.length:=Array.length_toList.symm;obtain⟨ws,h1,h2⟩:=lQ h;refine⟨qnt (by omega) (show 200<=sizeLine by decide),fun c hc=>(qY (jr h c hc)).2.2,?_⟩;unfold vP;rw[qnZ (by omega),w6 h1,Kw h2];show(if 40<tr.depth then Out.deep else Out.tree tr)=_;rw[qnZ (by omega)]
theorem Ip{l:List Nat}(h1:l≠[])(h2:∀ c∈l,cV c=true):∃ c,l.getLast? = some c/\¬ c=32:=by
 refine⟨l.getLast h1,List.getLast?_eq_some_getLast h1,fun z=>?_⟩;have:=h2 _ (List.getLast_mem h1);rw[z]at this;exact absurd this (by decide)
theorem yZ:∀{tr:Tr},dJ tr->∃ c,(wrT tr).cps.toList.getLast? = some c/\¬ c=32
 | .nm x,h=>by
  have hx:=h x qms;unfold isName at hx;obtain⟨h1,h2⟩:=Bool.and_eq_true_iff.mp hx;have h1:=qod (Bool.and_eq_true_iff.mp h1).1;have e:x.length=x.cps.toList.length:=Array.length_toList.symm;show ∃ c,x.cps.toList.getLast? = some c/\¬ c=32;exact Ip (fun z=>by rw[z]at e;rw[e]at h1;exact absurd h1 (by decide)) fun c hc=>List.all_eq_true.mp h2 c hc
 | .yes,_=>⟨49,by show("1":Str).cps.toList.getLast? = _;rw[nq];rfl,by decide⟩
 | .no,_=>⟨48,by show("0":Str).cps.toList.getLast? = _;rw[jL];rfl,by decide⟩
 | .not a,h=>by
  obtain⟨c,h1,h2⟩:=yZ (tr:=a) h;refine⟨c,?_,h2⟩;rw[mO,List.getLast?_cons,h1]
  rfl
 | .bin o a b,h=>⟨41,by rw[mQ,List.getLast?_append];rfl,by decide⟩
theorem jt{tr:Tr}(h:dJ tr):Clean (wrT tr):=by
 have hs:=jr h;refine⟨fun z=>(qY (hs 10 z)).1 rfl,?_,?_⟩
 . cases tr with
   | nm x =>
    have hx:=h x qms;show ∃ c,x.cps.toList.head? = some c/\¬ c=32;unfold isName at hx;obtain⟨h1,h2⟩:=Bool.and_eq_true_iff.mp hx;have h1:=qod (Bool.and_eq_true_iff.mp h1).1;have e:x.length=x.cps.toList.length:=Array.length_toList.symm;cases hq:x.cps.toList with
    |nil=>rw[hq]at e;rw[e]at h1;exact absurd h1 (by decide)
    | cons c r =>
     refine⟨c,rfl,fun z=>?_⟩;have:=List.all_eq_true.mp h2 c (by rw[hq];exact qms);rw[z]at this;exact absurd this (by decide)
   |yes=>exact⟨49,by show("1":Str).cps.toList.head? = _;rw[nq];rfl,by decide⟩
   |no=>exact⟨48,by show("0":Str).cps.toList.head? = _;rw[jL];rfl,by decide⟩
   |not a=>exact⟨126,by rw[mO];rfl,by decide⟩
   |bin o a b=>exact⟨40,by rw[mQ];rfl,by decide⟩
 . exact yZ h
abbrev Ir:List (Key×V):=[(.inr "and",.str "&"),(.inr "or",.str "|"),(.inr "then",.str ">"),(.inr "same",.str "=")]
theorem M5(o:Op):bY (kh [] Ir) (.inr o.str)=some (.str (opG o)):=by cases o <;> decide +kernel
theorem Fi{H:Hp}{p:Addr}{o o':HO}(h:H p=none):Same H (upd (upd H p o) p o'):=fun b u e=>by
 rw[aF (aM e h),aF (aM e h)];exact e
inductive spWrit(d:Nat)(vs:List V)(H:Hp)(Q:VK)(E:XK):Prop
 |mk (v:V) (tr:Tr) (_:vs=[v]) (_:TrAt H v tr) (_:tr.depth<=d) (_:d<=8) (_:dJ tr) (_:∀ H',Same H H'->Q (.str (wrT tr)) H')
theorem qZ{tr:Tr}(h:dJ tr)(hd:tr.depth<=8):(wrT tr).length <= 2000:=by
 have e:(wrT tr).length=(wrT tr).cps.toList.length:=Array.length_toList.symm;have h1:=pL h;have h2:=jc hd;have h3:jb 8=1659:=rfl;omega
theorem scWrit:FnScope ["_law_tree","_law_sign"] ["_law_tree"] (aB S99):=mkS
theorem uf(T:Txt P w K mg t):∀ d:Nat,FO P w K mg base (d+1) t.a99 t.d99 ["_law_tree"] (spWrit d)
 | 0=>⟨fun vs H Q E h=>by obtain⟨v,tr,rfl,_⟩:=h;rfl,fun _ _ _ _ _ _ _ _ _ _ _ _ _ h=>by
  obtain⟨v,tr,rfl,_,hd,_⟩:=h;have:=tr.depth_pos
  omega⟩
 | d + 1=>by
  have G99:=uf T d;refine T.q99.F.ok1 (k:=d+1) scWrit (fun vs H Q E h=>by obtain⟨v,tr,rfl,_⟩:=h;rfl) (fun cdv A outer s H vs Q E hr h=>?_);obtain⟨v,tr,rfl,ht,hd,h8,hno,k⟩:=h;have nd:=scWrit.nd;have hu:=gF hr
  refine⟨_,(ao (aV (aH aW (pix aK (pvl 0) ak) az (aN _))
    (aq (aA (pix aK (pvl 0) ak)))
    aP)
   (ao (aV (aH aW (pix aK (pvl 0) ak) az (aN _))
    (aq (aA az))
    aP)
   (ao (aV (aH aW (pix aK (pvl 0) ak) az (aN _))
    (aq (aA az))
    aP)
   (ao (aV (aH aW (pix aK (pvl 0) ak) az (aN _))
    (aq (aA (aG bj az (aQ G99 (hr.mo) T.q99.m T.q99.k T.q99.b aJ (aa (pix aK (pvl 0) ak) aj)))))
    aP)
   (ao (psl 1 nd (yw hu (J1 (m5 az az (m5 az az (m5 az az (m5 az az J0)))) rfl rfl (List.cons_ne_nil _ _) (by decide +kernel)) (pix aK (pvl 0) ak) (fun _ _=>rfl)))
   (aq (aA (aG bj (aG bj (aG bj (aG bj (aG bj (aG bj az (aQ G99 (hr.mo) T.q99.m T.q99.k T.q99.b aJ (aa (pix aK (pvl 0) ak) aj))) az) (pvl 1)) az) (aQ G99 (hr.mo) T.q99.m T.q99.k T.q99.b aJ (aa (pix aK (pvl 0) ak) aj))) az)))))))),?_⟩
  have sz:10000<=sizeLine:=by decide
  cases tr with
  | nm x =>
   obtain⟨a,rest,rfl,_⟩:=ht.open;have ha:=Hj ht;refine⟨_,rfl,a,_,0,_,rfl,rfl,SqT.of ha,rfl,rfl,_,rfl,aU (fun _=>?_) (fun z=>absurd (qdt rfl) z)⟩;exact⟨_,rfl,a,_,1,_,rfl,rfl,SqT.of ha,rfl,k H (Same.refl _)⟩
  | yes =>
   obtain⟨a,rest,rfl,ha,_,hkid⟩:=ht.open;have:=hkid rfl;cases this;refine⟨_,rfl,a,_,0,_,rfl,rfl,SqT.of ha,rfl,rfl,_,rfl,aU (fun z=>absurd (V.str.inj (qod z)) (by decide +kernel)) (fun _=>?_)⟩;refine⟨_,rfl,a,_,0,_,rfl,rfl,SqT.of ha,rfl,rfl,_,rfl,aU (fun _=>?_) (fun z=>absurd (qdt rfl) z)⟩;exact k H (Same.refl _)
  | no =>
   obtain⟨a,rest,rfl,ha,_,hkid⟩:=ht.open;have:=hkid rfl;cases this;refine⟨_,rfl,a,_,0,_,rfl,rfl,SqT.of ha,rfl,rfl,_,rfl,aU (fun z=>absurd (V.str.inj (qod z)) (by decide +kernel)) (fun _=>?_)⟩;refine⟨_,rfl,a,_,0,_,rfl,rfl,SqT.of ha,rfl,rfl,_,rfl,aU (fun z=>absurd (V.str.inj (qod z)) (by decide +kernel)) (fun _=>?_)⟩;refine⟨_,rfl,a,_,0,_,rfl,rfl,SqT.of ha,rfl,rfl,_,rfl,aU (fun _=>?_) (fun z=>absurd (qdt rfl) z)⟩;exact k H (Same.refl _)
  | not u =>
   obtain⟨a,rest,rfl,_⟩:=ht.open;obtain⟨v1,ha,t1⟩:=Bj ht;have hd':u.depth+1<=d+1:=hd;refine⟨_,rfl,a,_,0,_,rfl,rfl,SqT.of ha,rfl,rfl,_,rfl,aU (fun z=>absurd (V.str.inj (qod z)) (by decide +kernel)) (fun _=>?_)⟩;refine⟨_,rfl,a,_,0,_,rfl,rfl,SqT.of ha,rfl,rfl,_,rfl,aU (fun z=>absurd (V.str.inj (qod z)) (by decide +kernel)) (fun _=>?_)⟩;refine⟨_,rfl,a,_,0,_,rfl,rfl,SqT.of ha,rfl,rfl,_,rfl,aU (fun z=>absurd (V.str.inj (qod z)) (by decide +kernel)) (fun _=>?_)⟩;refine⟨_,rfl,a,_,0,_,rfl,rfl,SqT.of ha,rfl,rfl,_,rfl,aU (fun _=>?_) (fun z=>absurd (qdt rfl) z)⟩;have hno':dJ u:=hno;have hs:=qZ hno' (by omega);refine⟨_,rfl,a,_,1,v1,rfl,rfl,SqT.of ha,rfl,v1,u,rfl,t1,by omega,by omega,hno',fun H1 s1=>?_⟩;have e1:("~":Str).length=1:=by decide +kernel
   exact⟨_,_,rfl,rfl,by omega,k H1 s1⟩
  | bin o x y =>
   obtain⟨a,rest,rfl,_⟩:=ht.open;obtain⟨v1,v2,ha,t1,t2⟩:=Bh ht;have hd':max x.depth y.depth+1<=d+1:=hd;have hn1:dJ x:=fun z hz=>hno z (qal _ hz)
   have hn2:dJ y:=fun z hz=>hno z (qar _ hz)
   have hs1:=qZ hn1 (by omega);have hs2:=qZ hn2 (by omega);refine⟨_,rfl,a,_,0,_,rfl,rfl,SqT.of ha,rfl,rfl,_,rfl,aU (fun z=>absurd (V.str.inj (qod z)) (by cases o <;> decide +kernel)) (fun _=>?_)⟩;refine⟨_,rfl,a,_,0,_,rfl,rfl,SqT.of ha,rfl,rfl,_,rfl,aU (fun z=>absurd (V.str.inj (qod z)) (by cases o <;> decide +kernel)) (fun _=>?_)⟩;refine⟨_,rfl,a,_,0,_,rfl,rfl,SqT.of ha,rfl,rfl,_,rfl,aU (fun z=>absurd (V.str.inj (qod z)) (by cases o <;> decide +kernel)) (fun _=>?_)⟩;refine⟨_,rfl,a,_,0,_,rfl,rfl,SqT.of ha,rfl,rfl,_,rfl,aU (fun z=>absurd (V.str.inj (qod z)) (by cases o <;> decide +kernel)) (fun _=>?_)⟩;refine fun p hp=>⟨au,Ir,rfl,by decide,?_⟩
   have s2':Same H (upd (upd H p (.dK [])) p (.dK (kh [] Ir))):=Fi hp;refine⟨_,rfl,a,_,0,.str o.str,rfl,rfl,SqT.of (s2' _ _ ha),rfl,p,.str (opG o),rfl,?_,?_⟩
   . rw[<- M5 o]
     exact DGet.k (k:=.inr o.str) au
   have lo:(opG o).length=1:=by rw[BP];rfl
   have l1:("(":Str).length=1:=by decide +kernel
   have l2:(" ":Str).length=1:=by decide +kernel
   have l3:(")":Str).length=1:=by decide +kernel
   refine⟨_,rfl,a,_,1,v1,rfl,rfl,SqT.of (s2' _ _ ha),rfl,v1,x,rfl,t1.mono s2'.tups,by omega,by omega,hn1,fun H1 s1=>?_⟩;refine⟨_,_,rfl,rfl,by omega,_,_,rfl,rfl,by rw[Str.length_append];omega,_,rfl,_,_,rfl,rfl,by rw[Str.length_append,Str.length_append];omega,_,_,rfl,rfl,by rw[Str.length_append,Str.length_append,Str.length_append];omega,?_⟩;refine⟨_,rfl,a,_,2,v2,rfl,rfl,SqT.of (s1 _ _ (s2' _ _ ha)),rfl,v2,y,rfl,t2.mono (s2'.trans s1).tups,by omega,by omega,hn2,fun H2 s2=>?_⟩;refine⟨_,_,rfl,rfl,by rw[Str.length_append,Str.length_append,Str.length_append,Str.length_append];omega,_,_,rfl,rfl,by rw[Str.length_append,Str.length_append,Str.length_append,Str.length_append,Str.length_append];omega,?_⟩;exact k H2 ((s2'.trans s1).trans s2)
theorem xF{ns:List Str}{rs:List Int}(hl:rs.length=2 ^ ns.length){sd:Nat}(hs:sd≠0)(hi:∀ i,sd.testBit i=true->i<2 ^ ns.length):∃ x,aO (sel rs sd)=some x:=by
 cases hc:aO (sel rs sd)with
 |some x=>exact⟨x,rfl⟩
 | none =>
  refine absurd (Nat.eq_of_testBit_eq fun i=>?_) hs;rw[Nat.zero_testBit];cases hb:sd.testBit i with
  |false=>rfl
  | true =>
   have:=mem_sel.mpr ⟨i,by rw[hl];exact hi i hb,hb,rfl⟩;rw[fY hc]at this;cases this
def gW(rs:List Int)(side m:Nat):List Int:=((List.range m).filter fun i=>!side.testBit i).map fun i=>rs.getD i 0
theorem yh(rs:List Int)(side m:Nat):gW rs side (m+1)=gW rs side m++if side.testBit m=true then []else [rs.getD m 0]:=by
 unfold gW;rw[List.range_succ,List.filter_append,List.map_append];cases h:side.testBit m with
 |true=>simp[h]
 |false=>simp[h]
theorem BR(rs:List Int)(side m:Nat):(gW rs side m).length <= m:=by
 unfold gW;rw[qlm];refine qnt (List.length_filter_le _ _) ?_;rw[List.length_range];exact qnr _
theorem nM{ns:List Str}{tr:Tr}{rs:List Int}(hl:rs.length=2 ^ ns.length):gW rs (aR ns tr) rs.length=sel rs (aC ns tr):=by
 unfold gW sel fH
 congr 1
 refine List.filter_congr fun i hi=>?_
 have hi:=List.mem_range.mp hi;rw[hl]at hi;rw[bO,gB,qdt hi];simp
inductive spSides2(vs:List V)(H:Hp)(Q:VK)(E:XK):Prop
 |mk (r:Addr) (rs:List Int) (td:Nat) (_:vs=[.ref r,.int td]) (_:H r=some (.tup (rs.map V.int))) (_:rs.length<=256) (_:∀(q l1 l2:Addr)(H':Hp),Same H H'->H' q=some (.tup [.ref l1,.ref l2])->H' l1=some (.lst ((sel rs td).map V.int))->H' l2=some (.lst ((gW rs td rs.length).map V.int))->Q (.ref q) H')
theorem scSides2:FnScope ["_law_ranks","_law_told","_law_keeping","_law_breaking"] ["_law_ranks","_law_told"] (aB GK):=mkS
theorem vf(T:Txt P w K mg t):FO P w K mg base 1 t.a100 t.d100 ["_law_ranks","_law_told"] spSides2:=by
 refine T.q100.F.ok2 scSides2 (fun cdv A outer s H vs Q E hr h=>?_);obtain⟨r,rs,td,rfl,hr0,hlen,k⟩:=h;have nd:=scSides2.nd
 refine⟨_,(ao (gH (i:=2) rfl ["_law_world","_law_rank","_law_told"] [none,none,some 1] nd rfl rfl (jF (pvl 0) T.zm) (by kernel_rfl) (fun _ _ _ _ _ _=>(iI (K:=K) (n:=2) rfl rfl (bB (pgl 0 (ndS (l:=["_law_world","_law_rank","_law_told"]))) (bB (pgl 1 (ndS (l:=["_law_world","_law_rank","_law_told"]))) dR)))) (fun _ _ _ _ _ _=>gG (aH aW (aG eX (aG mC (pvc 2) (pvl 0)) ak) ak (aN _))) (fun _ _ _ _ _ _=>(pvl 1)))
   (ao (gH (i:=3) rfl ["_law_world","_law_rank","_law_told"] [none,none,some 1] nd rfl rfl (jF (pvl 0) T.zm) (by kernel_rfl) (fun _ _ _ _ _ _=>(iI (K:=K) (n:=2) rfl rfl (bB (pgl 0 (ndS (l:=["_law_world","_law_rank","_law_told"]))) (bB (pgl 1 (ndS (l:=["_law_world","_law_rank","_law_told"]))) dR)))) (fun _ _ _ _ _ _=>gG (aH aW (aG eX (aG mC (pvc 2) (pvl 0)) ak) ak (aN _))) (fun _ _ _ _ _ _=>(pvl 1)))
   (aq (aA (bw (aa (pvl 2) (aa (pvl 3) aj))))))),?_⟩
 refine⟨_,rfl,r,rfl,⟨_,SqT.of hr0⟩,?_⟩;refine gJ (K:=K) (a:=r) (xs:=rs.map V.int) (fun i ys H'=>Same H H'/\ys=(fH rs td i).map V.int) ⟨Same.refl _,rfl⟩ (lk (by rw[qlm];omega)) (fun i ys H' ⟨_,e⟩=>by rw[e,qlm];exact uP _ _ _) (fun i ys H' ⟨s1,_⟩=>SqT.of (s1 _ _ hr0)) ?_ ?_
 . rintro i y ys H1 hi ⟨s1,rfl⟩ e he
   rw[qgm]at hi
   obtain⟨x,hx,rfl⟩:∃ x,rs[i]? = some x/\y=V.int x:=by
    cases q:rs[i]? with
    |none=>rw[q]at hi;cases hi
    |some x=>rw[q]at hi;exact⟨x,rfl,(qsi hi).symm⟩
   have s2:=s1.trans (aD (o:=.tup [.int i,.int x]) he);refine⟨e,_,rfl,SqT.of au,rfl,_,_,rfl,_,_,rfl,rfl,⟨rfl,trivial⟩,?_⟩;refine⟨_,rfl,_,rfl,_,_,rfl,rfl,Int.natCast_nonneg i,_,_,rfl,rfl,?_⟩
   try dsimp -proj -iota only
   rw[tX];unfold di;rw[rT];have ex:rs.getD i 0=x:=by rw[List.getD,hx];rfl
   cases hb:td.testBit i with
   | true =>
    refine⟨rfl,_,rfl,bT ?_⟩;refine⟨_,rfl,s2,?_⟩;rw[qp rfl,List.map_append,ex]
    rfl
   | false =>
    refine⟨rfl,_,rfl,bz ⟨s2,?_⟩⟩;rw[qnZ (by decide),List.append_nil]
 rintro ys H1 ⟨s1,rfl⟩ l1 hl1;rw[qlm];have s2:=s1.trans (aD (o:=.lst ((fH rs td rs.length).map V.int)) hl1);have hl1':(upd H1 l1 (.lst ((fH rs td rs.length).map V.int))) l1=some (.lst ((fH rs td rs.length).map V.int)):=au;generalize upd H1 l1 (.lst ((fH rs td rs.length).map V.int))=H2 at s2 hl1' ⊢;refine⟨_,rfl,r,rfl,⟨_,SqT.of (s2 _ _ hr0)⟩,?_⟩;refine gJ (K:=K) (a:=r) (xs:=rs.map V.int) (fun i ys H'=>Same H2 H'/\ys=(gW rs td i).map V.int) ⟨Same.refl _,rfl⟩ (lk (by rw[qlm];omega)) (fun i ys H' ⟨_,e⟩=>by rw[e,qlm];exact BR _ _ _) (fun i ys H' ⟨s1,_⟩=>SqT.of (s1 _ _ (s2 _ _ hr0))) ?_ ?_
 . rintro i y ys H1 hi ⟨s1,rfl⟩ e he
   rw[qgm]at hi
   obtain⟨x,hx,rfl⟩:∃ x,rs[i]? = some x/\y=V.int x:=by
    cases q:rs[i]? with
    |none=>rw[q]at hi;cases hi
    |some x=>rw[q]at hi;exact⟨x,rfl,(qsi hi).symm⟩
   have s2:=s1.trans (aD (o:=.tup [.int i,.int x]) he);refine⟨e,_,rfl,SqT.of au,rfl,_,_,rfl,_,_,rfl,rfl,⟨rfl,trivial⟩,?_⟩;refine⟨_,rfl,_,rfl,_,_,rfl,rfl,Int.natCast_nonneg i,_,_,rfl,rfl,?_⟩
   try dsimp -proj -iota only
   rw[tX];unfold di;rw[yh];have ex:rs.getD i 0=x:=by rw[List.getD,hx];rfl
   cases hb:td.testBit i with
   | true =>
    refine⟨rfl,_,rfl,bz ⟨s2,?_⟩⟩;rw[qp rfl,List.append_nil]
   | false =>
    refine⟨rfl,_,rfl,bT ?_⟩;refine⟨_,rfl,s2,?_⟩;rw[qnZ (by decide),List.map_append,ex]
    rfl
 rintro ys H3 ⟨s3,rfl⟩ l2 hl2;rw[qlm];have s4:=aD (o:=.lst ((gW rs td rs.length).map V.int)) hl2;refine⟨_,rfl,_,rfl,lk (by first|exact qnb rfl|simp),fun q hq=>?_⟩;have s5:=aD (o:=.tup [.ref l1,.ref l2]) hq;exact k q l1 l2 _ (((s2.trans s3).trans s4).trans s5) au (s5 _ _ (s4 _ _ (s3 _ _ hl1'))) (s5 _ _ au)
theorem Iu{ns:List Str}{tr:Tr}(h:aC ns tr=0):aR ns tr=cz ns.length:=by
 have:=qi (ns:=ns) (t:=tr);rw[h]at this;have e:(cz ns.length ^^^ aR ns tr) ^^^ aR ns tr=0 ^^^ aR ns tr:=by rw[this]
 rw[Nat.xor_assoc,Nat.xor_self,Nat.xor_zero,Nat.zero_xor]at e;exact e.symm
theorem lR{ns:List Str}{tr:Tr}{rs:List Int}(hM:Mind ns rs)(h:aR ns tr≠cz ns.length):∃ x,aO (sel rs (aC ns tr))=some x:=xF hM.len (fun z=>h (Iu z)) fun i hb=>by
 rw[gB]at hb;exact qod (Bool.and_eq_true_iff.mp hb).1
theorem nO{ns:List Str}{tr:Tr}{rs:List Int}(hM:Mind ns rs)(h:aR ns tr≠0):∃ x,aO (sel rs (aR ns tr))=some x:=xF hM.len h fun i hb=>by
 rw[bO]at hb;exact qod (Bool.and_eq_true_iff.mp hb).1
inductive spLast(vs:List V)(H:Hp)(Q:VK)(E:XK):Prop
 |mk (i:Int) (_:vs=[.int i]) (_:Q (.int (Builtin.Int.intBits i - 1)) H)
theorem scLast:FnScope ["worlds"] ["worlds"] (aB S7):=mkS
theorem KQ(T:Txt P w K mg t):FO P w K mg base 1 t.a7 t.d7 ["worlds"] spLast:=by
 refine T.q7.F.ok2 scLast (fun cdv A outer s H vs Q E hr h=>?_);obtain⟨i,rfl,k⟩:=h;have nd:=scLast.nd;refine⟨_,(aq (aA (aG dW (mH PySem.F.plainAttrs_int PySem.F.slot_int_bit_length PySem.F.type_int_bit_length Do (pvl 0)) ak))),?_⟩;exact⟨_,rfl,rfl,_,rfl,rfl,_,_,rfl,rfl,k⟩
def fj(rs:List Int)(wd:Nat):Nat:=fL (fun i=>wd.testBit i && decide (aO (sel rs wd)=some (rs.getD i 0))) rs.length
inductive spNear(vs:List V)(H:Hp)(Q:VK)(E:XK):Prop
 |mk (r:Addr) (rs:List Int) (wd:Nat) (_:vs=[.ref r,.int wd]) (_:H r=some (.tup (rs.map V.int))) (_:rs.length<=256) (_:∀ H',Same H H'->Q (.int (fj rs wd:Nat)) H')
def OkT(t:Tr):Prop:=t.size<=100000/\t.depth<=110/\(∃ L:List Str,L.length<64/\∀ x∈t.names,x∈L)/\∀ x∈t.names,oV x
theorem OkT.fits{H:Hp}{p:Addr}{v:V}{ns:List Str}{t:Tr}(h:OkT t)(hp:H p=some (.tup (ns.map V.str)))(h8:ns.length<=8)(hnd:ns.Nodup)(ht:TrAt H v t):Fits H p v ns t:=⟨hp,h8,hnd,ht,h.1,h.2.1,h.2.2.1,h.2.2.2⟩
def cH(ns:List Str)(tr:Tr)(rs:List Int)(u:Tr):Bool:=fZ (aO (sel rs (aC ns u))) && !fZ (aO (sel (dg ns tr rs) (aC ns u)))
def jX(b:Tr->Bool)(ts:List Tr)(m:Nat):List (Nat×Tr):=((List.range m).filter fun k=>b (ts.getD k .yes)).map fun k=>(k,ts.getD k .yes)
theorem sY(b:Tr->Bool)(ts:List Tr)(m:Nat):jX b ts (m+1)=jX b ts m++if b (ts.getD m .yes)=true then [(m,ts.getD m .yes)]else []:=by
 unfold jX;rw[List.range_succ,List.filter_append,List.map_append];cases h:b (ts.getD m .yes)with
 |true=>rw[List.filter_cons_of_pos (p:=fun k=>b (ts.getD k .yes)) h,List.filter_nil];rfl
 |false=>rw[List.filter_cons_of_neg (p:=fun k=>b (ts.getD k .yes)) (by show ¬ b (ts.getD m .yes)=true;rw[h];decide),List.filter_nil];rfl
theorem Fj(b:Tr->Bool)(ts:List Tr)(m:Nat):(jX b ts m).length <= m:=by
 unfold jX;rw[qlm];refine qnt (List.length_filter_le _ _) ?_;rw[List.length_range];exact qnr _
def LostAt(ns:List Str)(near:Nat)(H:Hp)(v:V)(x:Nat×Tr):Prop:=∃ q,v = .ref q/\H q=some (.tup [.int x.1,.int (Builtin.Int.intBits ((near &&& aC ns x.2:Nat):Int) - 1)])
theorem LostAt.mono{ns:List Str}{near:Nat}{H H':Hp}(k:Tups H H'){v:V}{x:Nat×Tr}(h:LostAt ns near H v x):LostAt ns near H' v x:=by
 obtain⟨q,e,hq⟩:=h;exact⟨q,e,k _ _ hq⟩
inductive spLost(t:Adr)(vs:List V)(H:Hp)(Q:VK)(E:XK):Prop
 |mk (a p r lo:Addr) (rs:List Int) (v:V) (ns:List Str) (tr:Tr) (us:List V) (ts:List Tr) (_:vs=[.ref a,v,.ref lo]) (_:MindAt H a p r rs) (_:Mind ns rs) (_:H p=some (.tup (ns.map V.str))) (_:ns.length<=8) (_:ns.Nodup) (_:TrAt H v tr) (_:OkT tr) (_:H lo=some (.lst us)) (_:us.length<=100) (_:Paired (TrAt H) us ts) (_:(∀ u∈ts,OkT u)) (_:(((∀ x∈tr.names,x∈ns)/\∀ u∈ts,∀ x∈u.names,x∈ns)->match aO (sel rs (aC ns tr))with|none=>∀ H',Same H H'->E (.ref t.zh) none H'|some _=>∀(l:Addr)(ps:List V)(H':Hp),Same H H'->H l=none->H' l=some (.lst ps)->Paired (LostAt ns (fj rs (aC ns tr)) H') ps (jX (cH ns tr rs) ts ts.length)->Q (.ref l) H')) (_:((¬ ((∀ x∈tr.names,x∈ns)/\∀ u∈ts,∀ x∈u.names,x∈ns))->∀ H',Same H H'->E (.ref t.zf) none H'))
theorem scNear:FnScope ["ranks","worlds","least"] ["ranks","worlds"] (aB S31):=mkS
theorem KR(T:Txt P w K mg t):FO P w K mg base 3 t.a31 t.d31 ["ranks","worlds"] spNear:=by
 have G6:=oW (base:=base) T;have G18:=oX (base:=base) T;refine T.q31.F.ok2 scNear (fun cdv A outer s H vs Q E hr h=>?_);obtain⟨r,rs,wd,rfl,hr0,hlen,k⟩:=h;have nd:=scNear.nd
 refine⟨_,(ao (psc 2 nd (aQ G18 (hr.mo) T.q18.m T.q18.k T.q18.b aJ (aa (pvl 0) (aa (pvc 1) aj))))
   (aq (aA (aZ (uJ rfl) T.zY Bt.sum (aa (cj rfl ["world","rank","least","worlds"] [none,none,some 2,some 1] (jF (pvl 0) T.zm) (by kernel_rfl) (fun _ _ _ _ _ _=>(iI (K:=K) (n:=2) rfl rfl (bB (pgl 0 (ndS (l:=["world","rank","least","worlds"]))) (bB (pgl 1 (ndS (l:=["world","rank","least","worlds"]))) dR)))) (fun _ _ _ _ _ _=>gG (PW.pt (jC (aH aW (pvl 1) (pvc 2) (aN _)) (jf (aH aW (aQ G6 (hr.mo) T.q6.m T.q6.k T.q6.b aJ (aa (pvc 3) (aa (pvl 0) aj))) ak (aN _)))))) (fun _ _ _ _ _ _=>(aG eV ak (pvl 0)))) aj))))),?_⟩
 refine⟨_,rfl,_,rfl,r,rs,wd,rfl,hr0,hlen,fun H1 s1=>?_⟩;have hr1:=s1 _ _ hr0;refine⟨_,rfl,r,rfl,⟨_,SqT.of hr1⟩,?_⟩
 refine gJ (K:=K) (a:=r) (xs:=rs.map V.int) (fun i ys H'=>Same H1 H'/\ys=((List.range i).filter fun j=>wd.testBit j && decide (aO (sel rs wd)=some (rs.getD j 0))).map fun j=>V.int ((2 ^ j:Nat):Int)) ⟨Same.refl _,rfl⟩ (lk (by rw[qlm];omega)) (fun i ys H' ⟨_,e⟩=>by
  rw[e,qlm];refine qnt (List.length_filter_le _ _) ?_
  rw[List.length_range];exact qnr _) (fun i ys H' ⟨s2,_⟩=>SqT.of (s2 _ _ hr1)) ?_ ?_
 . rintro i y ys H2 hi ⟨s2,rfl⟩ e he
   have hi256:i<rs.length:=by
    have:=(List.getElem?_eq_some_iff.mp hi).1;rw[qlm]at this;exact this
   rw[qgm]at hi
   obtain⟨x,hx,rfl⟩:∃ x,rs[i]? = some x/\y=V.int x:=by
    cases q:rs[i]? with
    |none=>rw[q]at hi;cases hi
    |some x=>rw[q]at hi;exact⟨x,rfl,(qsi hi).symm⟩
   have s3:=s2.trans (aD (o:=.tup [.int i,.int x]) he);refine⟨e,_,rfl,SqT.of au,rfl,_,_,rfl,_,_,rfl,rfl,⟨rfl,rfl,trivial⟩,?_⟩;have ex:rs.getD i 0=x:=by rw[List.getD,hx];rfl
   have es:((List.range (i+1)).filter fun j=>wd.testBit j && decide (aO (sel rs wd)=some (rs.getD j 0)))=((List.range i).filter fun j=>wd.testBit j && decide (aO (sel rs wd)=some (rs.getD j 0)))++if (wd.testBit i && decide (aO (sel rs wd)=some x))=true then [i]else []:=by
    rw[List.range_succ,List.filter_append,List.filter_cons,ex]
    rfl
   rw[es,List.map_append];refine⟨_,rfl,_,rfl,(by cases aO (sel rs wd) <;> rfl),_,rfl,aU (fun c=>?_) (fun c=>bz ⟨s3,?_⟩)⟩
   . have c:aO (sel rs wd)=some x:=by
      have c:=qod c;cases q:aO (sel rs wd)with
      |none=>rw[q]at c;cases c
      |some m=>rw[q]at c;rw[V.int.inj c]
     refine⟨_,rfl,_,rfl,wd,i,rfl,rfl,_,rfl,?_⟩;rw[qdt c,Bool.and_true];unfold di;cases hb:wd.testBit i with
     | true =>
      refine bT ?_;refine⟨_,rfl,_,_,rfl,rfl,⟨by omega,by omega,by decide⟩,s3,?_⟩
      try dsimp only
      rw[qp rfl,Int.toNat_natCast];simp
     | false =>
      refine bz ⟨s3,?_⟩;rw[qnZ (by decide)];simp
   . have c:¬ aO (sel rs wd)=some x:=fun z=>c (qdt (by rw[z];rfl))
     rw[qdf c,Bool.and_false,qnZ (by decide)];simp
 . rintro ys H2 ⟨s2,rfl⟩ l hl
   rw[qlm];refine⟨l,((List.range rs.length).filter fun j=>wd.testBit j && decide (aO (sel rs wd)=some (rs.getD j 0))).map fun j=>((2 ^ j:Nat):Int),rfl,SqL.of (by rw[au,List.map_map];rfl),?_⟩;have q:=k _ ((s1.trans s2).trans (aD (o:=.lst (((List.range rs.length).filter fun j=>wd.testBit j && decide (aO (sel rs wd)=some (rs.getD j 0))).map fun j=>V.int ((2 ^ j:Nat):Int))) hl));unfold fj at q;rw[<- qM]at q;exact q
theorem scLost:FnScope ["mind","tree","others","each","behind","against","pairs","place","other"] ["mind","tree","others"] (aB S32):=mkS
theorem KY(T:Txt P w K mg t):FO P w K mg base 122 t.a32 t.d32 ["mind","tree","others"] (spLost t):=by
 have G8:=yL (base:=base) T;have G16:=qN (base:=base) T;have G20:=t6 (base:=base) T;have G29:=yN (base:=base) T;have G31:=KR (base:=base) T;have G7:=KQ (base:=base) T;refine T.q32.F.ok2 scLost (fun cdv A outer s H vs Q E hr h=>?_);obtain⟨a,p,r,lo,rs,v,ns,tr,us,ts,rfl,hm,hM,hp,h8,hnd,ht,hok,hlo,hul,hpt,hots,k1,k2⟩:=h;have nd:=scLost.nd;have hpl:=Paired.length hpt
 refine ⟨_,(ao (dU own1 rfl (cZ (aG rM (bF (aa (pvl 1) aj)) (pvl 2))) (pgl 3 nd)
    (aq (bA (aQ G8 (hr.mo) T.q8.m T.q8.k T.q8.b bx (aa (pix aK (pvl 0) ak) (aa (pvl 3) aj))))))
   (ao (psl 4 nd (aQ G29 (hr.mo) T.q29.m T.q29.k T.q29.b bx (aa (pvl 0) (aa (pvl 1) aj))))
   (ao (psl 5 nd (aQ G31 (hr.mo) T.q31.m T.q31.k T.q31.b aJ (aa (pix aK (pvl 0) ak) (aa (aQ G16 (hr.mo) T.q16.m T.q16.k T.q16.b bx (aa (pix aK (pvl 0) ak) (aa (pvl 1) aj))) aj))))
   (ao (psl 6 nd (bF aj))
   (ao (dU own1 rfl (vL (pvl 2) T.zm) (mz (n:=2) rfl (bB (pgl 7 nd) (bB (pgl 8 nd) dR)))
    (aq (aV (PW.pt (jC (bZ (aQ G20 (hr.mo) T.q20.m T.q20.k T.q20.b bx (aa (pvl 0) (aa (pvl 8) aj)))) (jf (cQ (bZ (aQ G20 (hr.mo) T.q20.m T.q20.k T.q20.b bx (aa (pvl 4) (aa (pvl 8) aj))))))))
     (aq (bA (bW PySem.F.plainAttrs_list PySem.F.slot_list_append PySem.F.type_list_append cM (pvl 6) (aa (bw (aa (pvl 7) (aa (aQ G7 (hr.mo) T.q7.m T.q7.k T.q7.b aJ (aa (aG eX (pvl 5) (aQ G16 (hr.mo) T.q16.m T.q16.k T.q16.b bx (aa (pix aK (pvl 0) ak) (aa (pvl 8) aj)))) aj)) aj))) aj))))
     aP)))
   (aq (aA (pvl 6)))))))),?_⟩
 refine⟨_,rfl,lk (by first|exact qnb rfl|simp),fun l1 hl1=>?_⟩;have s1:=aD (o:=.lst [v]) hl1;refine⟨_,rfl,l1,lo,_,_,rfl,rfl,au,s1 _ _ hlo,lk (by show 1+us.length<=_;omega),fun l2 hl2=>?_⟩;have s2:=aD (o:=.lst ([v]++us)) hl2;have h2:(upd (upd H l1 (.lst [v])) l2 (.lst ([v]++us))) l2=some (.lst ([v]++us)):=au;have s12:=s1.trans s2;generalize upd (upd H l1 (.lst [v])) l2 (.lst ([v]++us))=H2 at h2 s12 ⊢;have hp2:Paired (TrAt H2) ([v]++us) ([tr]++ts):=dM (.cons (ht.mono s12.tups) .nil) (cP s12.tups hpt)
 have ok2:∀ u∈[tr]++ts,OkT u:=fun u hu=>by
  rcases List.mem_append.mp hu with hu|hu
  . rw[List.mem_singleton.mp hu];exact hok
  . exact hots u hu
 refine⟨l2,rfl,⟨_,SqL.of h2⟩,gw (K:=K) (a:=l2) (xs:=[v]++us)
  (fun i σ H'=>∃(o3:Option V),σ=[some (.ref a),some v,some (.ref lo),o3,none,none,none,none,none]/\Same H2 H'/\∀ u∈([tr]++ts).take i,∀ x∈u.names,x∈ns)
  ⟨none,rfl,Same.refl _,by simp⟩ (fun i σ H' _ ⟨_,_,s',_⟩=>SqL.of (s' _ _ h2)) ?_ ?_⟩
 . rintro i z σ H3 hi ⟨o3,rfl,s3,hin⟩
   obtain⟨u,hu',hz⟩:=bQ hp2 i z hi;obtain⟨z1,z2,z3,z4⟩:=ok2 u (qmg hu');have s03:=s12.trans s3;have hm3:=hm.mono s03;refine⟨_,rfl,a,_,0,.ref p,rfl,rfl,SqT.of hm3.1,rfl,_,rfl,p,z,ns,u,rfl,s03 _ _ hp,hz.mono s3.tups,z1,z3,z4,fun hall H4 s4=>?_,fun hno H4 s4=>k2 (fun q=>hno ?_) _ (s03.trans s4)⟩
   . refine⟨_,rfl,s3.trans s4,fun w hw=>?_⟩
     rw[qta,hu']at hw;rcases List.mem_append.mp hw with hw|hw
     . exact hin w hw
     . obtain rfl:w=u:=by simpa using hw
       exact hall
   . rcases List.mem_append.mp (qmg hu')with h|h
     . rw[List.mem_singleton.mp h];exact q.1
     . exact q.2 u h
 rintro σ H3 ⟨o3,rfl,s3,hin⟩
 have hall0:∀ u∈[tr]++ts,∀ x∈u.names,x∈ns:=by
  have e:([v]++us).length=([tr]++ts).length:=Paired.length hp2;rw[e,List.take_length]at hin;exact hin
 have hall:∀ x∈tr.names,x∈ns:=hall0 tr qms;have hallt:∀ u∈ts,∀ x∈u.names,x∈ns:=fun u hu=>hall0 u (qar _ hu)
 have k1:=k1 ⟨hall,hallt⟩;have s03:=s12.trans s3;have hm3:=hm.mono s03;refine⟨_,rfl,_,rfl,a,p,r,rs,v,ns,tr,rfl,hm3,hM,hok.fits (s03 _ _ hp) h8 hnd (ht.mono s03.tups),fun _=>?_,fun z=>absurd hall z⟩;cases hb:aO (sel rs (aC ns tr))with
 | none =>
  rw[hb]at k1;exact fun H4 s4=>k1 H4 (s03.trans s4)
 | some x =>
  rw[hb]at k1;intro b q H4 s4 hmb;have s04:=s03.trans s4;have hm4:=hm.mono s04;refine⟨_,rfl,a,_,1,.ref r,rfl,rfl,SqT.of hm4.1,rfl,_,rfl,a,_,0,.ref p,rfl,rfl,SqT.of hm4.1,rfl,_,rfl,p,v,ns,tr,rfl,hok.fits (s04 _ _ hp) h8 hnd (ht.mono s04.tups),fun _ H5 s5=>?_,fun z=>absurd hall z⟩;have s05:=s04.trans s5;have hm5:=hm.mono s05;refine⟨r,rs,aC ns tr,rfl,hm5.2.1,hm5.2.2,fun H6 s6=>?_⟩;have s06:=s05.trans s6;refine⟨lk (by first|exact qnb rfl|simp),fun l hl=>?_⟩;have s7:=aD (o:=.lst []) hl;have hl0:H l=none:=s06.free hl
  refine⟨_,rfl,lo,rfl,⟨_,SqL.of ((s06.trans s7) _ _ hlo)⟩,wG (K:=K) (a:=lo) (xs:=us)
   (fun i σ H'=>∃(o7 o8:Option V)(ps:List V),σ=[some (.ref a),some v,some (.ref lo),o3,some (.ref b),some (.int (fj rs (aC ns tr):Nat)),some (.ref l),o7,o8]/\Same H H'/\Tups H6 H'/\H' l=some (.lst ps)/\Paired (LostAt ns (fj rs (aC ns tr)) H') ps (jX (cH ns tr rs) ts i))
   ⟨none,none,[],rfl,s06.trans s7,s7.tups,au,.nil⟩ (fun i σ H' _ ⟨_,_,_,_,s',_⟩=>SqL.of (s' _ _ hlo)) ?_ ?_⟩
  . rintro i z σ H8 hi ⟨o7,o8,ps,rfl,s8,t8,hl8,hps⟩ d hd'
    have hi100:i<us.length:=(List.getElem?_eq_some_iff.mp hi).1;obtain⟨u,hu',hz⟩:=bQ hpt i z hi;have eu:ts.getD i .yes=u:=by rw[List.getD,hu'];rfl
    have okU:=hots u (qmg hu');have nu:=hallt u (qmg hu');have v1:=aD (o:=.tup [.int i,z]) hd';refine⟨d,_,rfl,SqT.of au,rfl,_,_,rfl,_,_,rfl,rfl,?_⟩;have s9:=s8.trans v1;have t9:=t8.trans v1.tups;have hl9:=v1 _ _ hl8;have hps9:=Paired.mapP hps fun _ _ q=>LostAt.mono v1.tups q
    generalize upd H8 d (.tup [.int i,z])=H9 at s9 t9 hl9 hps9 ⊢;have fu:∀{H':Hp},Same H9 H'->Fits H' p z ns u:=fun {H'} s'=>okU.fits ((s9.trans s') _ _ hp) h8 hnd (hz.mono (s9.trans s').tups)
    have hmb9:MindAt H9 b p q (dg ns tr rs):=by
     have e:=(hmb.mono s5).mono s6;exact⟨t9 _ _ e.1,t9 _ _ e.2.1,e.2.2⟩
    have el:=sY (cH ns tr rs) ts i;rw[eu]at el;have lb:cH ns tr rs u=(fZ (aO (sel rs (aC ns u))) && !fZ (aO (sel (dg ns tr rs) (aC ns u)))):=rfl
    have skip:cH ns tr rs u=false->∀{H':Hp},Same H9 H'->Same H H'/\Tups H6 H'/\H' l=some (.lst ps)/\Paired (LostAt ns (fj rs (aC ns tr)) H') ps (jX (cH ns tr rs) ts (i+1)):=fun e {H'} s'=>by
     rw[e,qnZ (by decide),List.append_nil]at el;rw[el];exact⟨s9.trans s',t9.trans s'.tups,s' _ _ hl9,Paired.mapP hps9 fun _ _ q=>LostAt.mono s'.tups q⟩
    refine⟨_,rfl,_,rfl,a,p,r,rs,z,ns,u,rfl,hm.mono s9,fu (Same.refl _),fun _ H10 s10=>⟨_,rfl,aU (fun c1=>?_) (fun c1=>bz ?_)⟩,fun z=>absurd nu z⟩
    . refine⟨_,rfl,_,rfl,b,p,q,_,z,ns,u,rfl,hmb9.mono s10,fu s10,fun _ H11 s11=>⟨_,rfl,aU (fun c2=>?_) (fun c2=>?_)⟩,fun z=>absurd nu z⟩
      . have s911:=s10.trans s11
        have hm11:=hm.mono (s9.trans s911);have hl11:=s911 _ _ hl9;refine⟨_,rfl,.inl ⟨rfl,_,SqL.of hl11⟩,_,rfl,_,rfl,_,rfl,a,_,0,.ref p,rfl,rfl,SqT.of hm11.1,rfl,_,rfl,p,z,ns,u,rfl,fu s911,fun _ H12 s12'=>?_,fun z=>absurd nu z⟩;have s912:=s911.trans s12';refine⟨_,_,rfl,rfl,_,rfl,lk (by first|exact qnb rfl|simp),fun qt hqt=>?_⟩;have s13:=aD (o:=.tup [.int i,.int (Builtin.Int.intBits (Builtin.bitAnd ((fj rs (aC ns tr):Nat):Int) ((aC ns u:Nat):Int)) - 1)]) hqt;have hl13:=s13 _ _ (s912 _ _ hl9);have s913:=s912.trans s13;refine⟨l,ps,_,rfl,rfl,hl13,dO ?_,?_⟩
        . have:=Paired.length hps
          have:=Fj (cH ns tr rs) ts i;omega
        have eb:cH ns tr rs u=true:=by rw[lb,c1,Bool.true_and];exact c2
        rw[eb,qp rfl]at el;have kt:Tups (upd H12 qt (.tup [.int i,.int (Builtin.Int.intBits (Builtin.bitAnd ((fj rs (aC ns tr):Nat):Int) ((aC ns u:Nat):Int)) - 1)])) (upd (upd H12 qt (.tup [.int i,.int (Builtin.Int.intBits (Builtin.bitAnd ((fj rs (aC ns tr):Nat):Int) ((aC ns u:Nat):Int)) - 1)])) l (.lst (ps++[.ref qt]))):=wL hl13;refine⟨_,_,ps++[.ref qt],rfl,fun bb o eb'=>?_,(t9.trans s913.tups).trans kt,au,?_⟩
        . rw[aF (aM eb' hl0)]
          exact s913 _ _ (s9 _ _ eb')
        . rw[el]
          refine dM (Paired.mapP hps9 fun _ _ q=>LostAt.mono (s913.tups.trans kt) q) (.cons ⟨qt,rfl,?_⟩ .nil);have:=kt _ _ (au (H:=H12) (a:=qt) (o:=.tup [.int i,.int (Builtin.Int.intBits (Builtin.bitAnd ((fj rs (aC ns tr):Nat):Int) ((aC ns u:Nat):Int)) - 1)]));rw[band]at this ⊢;exact this
      . have eb:cH ns tr rs u=false:=by
         rw[lb,c1,Bool.true_and];exact Bool.eq_false_iff.mpr c2
        obtain⟨g1,g2,g3,g4⟩:=skip eb (s10.trans s11);exact⟨_,_,ps,rfl,g1,g2,g3,g4⟩
    . have eb:cH ns tr rs u=false:=by
       rw[lb,Bool.eq_false_iff.mpr c1]
       rfl
      obtain⟨g1,g2,g3,g4⟩:=skip eb s10;exact⟨_,_,ps,rfl,g1,g2,g3,g4⟩
  . rintro σ H8 ⟨o7,o8,ps,rfl,s8,t8,hl8,hps⟩
    rw[hpl]at hps;exact⟨_,rfl,k1 l ps H8 s8 hl0 hl8 hps⟩
theorem rm{ns:List Str}{rs:List Int}(h:Mind ns rs)(tr:Tr):fZ (aO (sel rs (aC ns tr)))=true↔rY ns rs tr:=by
 rw[<- h.pos_iff tr];cases aO (sel rs (aC ns tr))with
 |none=>exact⟨fun _=>trivial,fun _=>rfl⟩
 |some x=>exact⟨fun c=>qod c,fun c=>qdt c⟩
theorem xG{n:Nat}(h:n≠0):((Builtin.Int.intBits ((n:Nat):Int):Nat):Int) - 1=((n.log2:Nat):Int)/\n.testBit n.log2=true:=by
 constructor
 . unfold Builtin.Int.intBits
   rw[qnZ (by simpa using h),Int.natAbs_natCast];omega
 . exact Nat.testBit_log2 h
theorem BV{ns:List Str}{t u:Tr}{rs:List Int}{x y:Int}(h:TwoL ns t rs x y)(hM:Mind ns rs)(hl:cH ns t rs u=true):
  ∃ j,((Builtin.Int.intBits ((fj rs (aC ns t) &&& aC ns u:Nat):Int):Nat):Int) - 1=((j:Nat):Int)/\j<2 ^ ns.length/\rs.getD j 0=x/\(aR ns t ||| aR ns u).testBit j=false:=by
 have nb:∀ i,(fj rs (aC ns t)).testBit i=(decide (i<rs.length) && ((aC ns t).testBit i && decide (aO (sel rs (aC ns t))=some (rs.getD i 0)))):=fun i=>dG _ _ _
 have hne:fj rs (aC ns t) &&& aC ns u≠0:=by
  intro z;unfold cH at hl;obtain⟨l1,l2⟩:=Bool.and_eq_true_iff.mp hl;have l2:¬ fZ (aO (sel (dg ns t rs) (aC ns u)))=true:=by simpa using l2
  refine l2 ((rm (hM.giveM t) u).mpr ((uQ h.br hM).mpr ⟨(rm hM u).mp l1,fun i hi he e=>?_⟩));cases hu:bu (inW ns i) u with
  |true=>rfl
  | false =>
   have:=congrArg (fun w=>w.testBit i) z;simp only[Nat.testBit_and,Nat.zero_testBit]at this;rw[nb,(jm hi).mpr hu,(jm hi).mpr he,qdt (show i<rs.length by rw[h.len];exact hi),h.br,e]at this;simp at this
 obtain⟨e1,e2⟩:=xG hne;refine⟨_,e1,?_⟩;rw[Nat.testBit_and,nb]at e2;obtain⟨a1,a2⟩:=Bool.and_eq_true_iff.mp e2;obtain⟨a3,a4⟩:=Bool.and_eq_true_iff.mp a1;obtain⟨a5,a6⟩:=Bool.and_eq_true_iff.mp a4;have hj:=qod a3;rw[h.len]at hj;refine⟨hj,?_,?_⟩
 . have a6:=qod a6
   rw[h.br]at a6;exact(qsi a6).symm
 . rw[Nat.testBit_or,kW hj,kW hj,a5,a2]
   rfl
def M6(H:Hp)(v:V)(ns:List Str):Prop:=∃(a p:Addr)(u:V),v = .ref a/\H a=some (.tup [.ref p,u])/\H p=some (.tup (ns.map V.str))
inductive spAlike(t:Adr)(vs:List V)(H:Hp)(Q:VK)(E:XK):Prop
 |mk (l:Addr) (us:List V) (nss:List (List Str)) (_:vs=[.ref l]) (_:H l=some (.lst us)) (_:Paired (M6 H) us nss) (_:(nss=[]->E (.ref t.zG) none H)) (_:(∀ n r,nss=n::r->(∀ m∈nss,m=n)->Q .non H)) (_:(∀ n r,nss=n::r->(¬ ∀ m∈nss,m=n)->E (.ref t.zH) none H))
theorem nP{α β:Type}{F:α->β->Prop}{a:List α}{b:List β}(h:Paired F a b):a.length=b.length:=Paired.length h
theorem scAlike:FnScope ["minds","mind"] ["minds"] (aB S24):=mkS
theorem Iv(T:Txt P w K mg t):FO P w K mg base 1 t.a24 t.d24 ["minds"] (spAlike t):=by
 refine T.q24.F.ok2 scAlike (fun cdv A outer s H vs Q E hr h=>?_);obtain⟨l,us,nss,rfl,hl,hp,k0,k1,k2⟩:=h;have nd:=scAlike.nd;have hu:=gF hr;have hlen:=nP hp
 refine ⟨_,(ao (aV (aH aW (aZ aX T.zd Bt.len (aa (pvl 0) aj)) ak (aN _))
    (aq (dF eO rfl T.zaD T.zae (aa az aj)))
    aP)
   (aq (dU own1 rfl (cZ (pvl 0)) (pgl 1 nd)
    (aq (aV (aH (yG (Nat.lt_of_succ_lt hu)) (pix aK (pvl 1) ak) (pix aK (pix cg (pvl 0) ak) ak) (aN _))
     (aq (dF eO rfl T.zaF T.zah (aa az aj)))
     aP))))),?_⟩
 refine⟨_,rfl,l,_,rfl,.inl (SqL.of hl),rfl,_,rfl,?_⟩;cases nss with
 | nil =>
  have e:us.length=0:=hlen;rw[e];exact bT ⟨(by show 1<=sizeLine;decide),k0 rfl⟩
 | cons n r =>
  refine aU (fun c=>?_) (fun _=>?_)
  . have c:=qod c
    have c:((us.length:Nat):Int)=0:=V.int.inj c;rw[List.length_cons]at hlen;omega
  obtain⟨u0,us',rfl⟩:∃ u us',us=u::us':=by
   cases us with
   |nil=>rw[List.length_cons]at hlen;cases hlen
   |cons u us'=>exact⟨u,us',rfl⟩
  obtain⟨y0,hy0,a0,p0,w0,rfl,ha0,hp0⟩:=bQ hp 0 u0 rfl;obtain rfl:n=y0:=qsi hy0
  refine⟨_,rfl,l,rfl,⟨_,SqL.of hl⟩,gw (K:=K) (a:=l) (xs:=V.ref a0::us') (fun i σ H2=>∃ o:Option V,σ=[some (.ref l),o]/\H2=H/\∀ m∈(n::r).take i,m=n)
   ⟨none,rfl,rfl,by simp⟩ (fun i σ H2 _ ⟨_,_,e,_⟩=>by subst e;exact SqL.of hl) ?_ ?_⟩
  . rintro i y σ H2 hi ⟨o,rfl,rfl,hin⟩
    obtain⟨m,hm,a1,p1,w1,rfl,ha1,hp1⟩:=bQ hp i y hi;refine⟨_,rfl,a1,_,0,.ref p1,rfl,rfl,SqT.of ha1,rfl,_,rfl,l,_,0,.ref a0,rfl,rfl,SqL.of hl,b8 (j:=0) rfl,a0,_,0,.ref p0,rfl,rfl,SqT.of ha0,rfl,p1,p0,m,n,rfl,rfl,SqT.of hp1,SqT.of hp0,_,rfl,?_⟩
    by_cases hmn:m=n
    . rw[qdt hmn]
      refine bz ⟨_,rfl,rfl,fun z hz=>?_⟩;rw[qta,hm]at hz;rcases List.mem_append.mp hz with hz|hz
      . exact hin z hz
      . have:z=m:=by simpa using hz
        rw[this];exact hmn
    . rw[qdf hmn]
      exact bT ⟨(by show 1<=sizeLine;decide),k2 n r rfl fun z=>hmn (z m (qmg hm))⟩
  . rintro σ H2 ⟨o,rfl,rfl,hin⟩
    rw[hlen,List.take_length]at hin;exact k1 n r rfl hin
def MindV(H:Hp)(p:Addr)(v:V)(rs:List Int):Prop:=∃(a r:Addr),v = .ref a/\H a=some (.tup [.ref p,.ref r])/\H r=some (.tup (rs.map V.int))
theorem MindV.tups{H H':Hp}(s:Tups H H'){p:Addr}{v:V}{rs:List Int}:MindV H p v rs->MindV H' p v rs:=fun⟨a,r,h1,h2,h3⟩=>⟨a,r,h1,s _ _ h2,s _ _ h3⟩
theorem MindV.mono{H H':Hp}(s:Same H H'){p:Addr}{v:V}{rs:List Int}(h:MindV H p v rs):MindV H' p v rs:=h.tups s.tups
def p7(rss:List (List Int))(i:Nat):Bool:=rss.all fun rs=>decide (rs.getD i 0=0)
def ug(N:Nat)(rss:List (List Int)):List Int:=((List.range N).filter (p7 rss)).map fun i:Nat=>(i:Int)
inductive spNearC(vs:List V)(H:Hp)(Q:VK)(E:XK):Prop
 |mk (l p:Addr) (us:List V) (rss:List (List Int)) (i:Nat) (_:vs=[.ref l,.int i]) (_:H l=some (.lst us)) (_:us.length<=100) (_:Paired (MindV H p) us rss) (_:(∀ rs∈rss,i<rs.length)) (_:∀ H',Same H H'->Q (.bl (p7 rss i)) H')
inductive spCommon(vs:List V)(H:Hp)(Q:VK)(E:XK):Prop
 |mk (l p:Addr) (ns:List Str) (us:List V) (rss:List (List Int)) (N:Nat) (_:vs=[.ref l]) (_:H l=some (.lst us)) (_:H p=some (.tup (ns.map V.str))) (_:Paired (MindV H p) us rss) (_:0<us.length) (_:us.length<=100) (_:N<=256) (_:(∀ rs∈rss,rs.length=N)) (_:∀(q:Addr)(H':Hp),Same H H'->H q=none->H' q=some (.lst ((ug N rss).map V.int))->Q (.ref q) H')
theorem scNearC:FnScope ["minds","world"] ["minds","world"] (aB S26):=mkS
theorem Iw(T:Txt P w K mg t):FO P w K mg base 1 t.a26 t.d26 ["minds","world"] spNearC:=by
 refine T.q26.F.ok2 scNearC (fun cdv A outer s H vs Q E hr h=>?_);obtain⟨l,p,us,rss,i,rfl,hl,h100,hpp,hi,k⟩:=h;have nd:=scNearC.nd;have hlen:=nP hpp;refine⟨_,(aq (aA (aZ (lE rfl) T.zF Bt.all (aa (cj rfl ["mind","world"] [none,some 1] (cZ (pvl 0)) (by kernel_rfl) (fun _ _ _ _ _ _=>(pgl 0 (ndS (l:=["mind","world"])))) (fun _ _ _ _ _ _=>cN) (fun _ _ _ _ _ _=>(cF aW (pix (mK (K:=K)) (pix (mK (K:=K)) (pvl 0) ak) (pvc 1)) ak (aN _)))) aj)))),?_⟩;refine⟨_,rfl,l,rfl,⟨_,SqL.of hl⟩,?_⟩;refine gA (K:=K) (a:=l) (xs:=us) (fun j ys H'=>H'=H/\ys=((rss.take j).map fun rs=>decide (rs.getD i 0=0)).map V.bl) ⟨rfl,rfl⟩ (lk (by omega)) (fun j ys H' ⟨_,e⟩=>by rw[e,qlm,qlm,List.length_take];omega) (fun j ys H' ⟨e,_⟩=>by subst e;exact SqL.of hl) ?_ ?_
 . rintro j z ys H' hj ⟨rfl,rfl⟩
   obtain⟨rs,hrs,a,r,rfl,ha,hr'⟩:=bQ hpp j z hj;have hir:=hi rs (qmg hrs)
   have i2:atI (rs.map V.int) (i:Int)=some (V.int (rs.getD i 0)):=by
    refine b8 ?_;rw[qgm,List.getD,List.getElem?_eq_getElem hir]
    rfl
   refine⟨⟨rfl,trivial⟩,?_⟩;refine⟨_,rfl,a,_,1,.ref r,rfl,rfl,SqT.of ha,rfl,_,rfl,r,_,_,_,rfl,rfl,SqT.of hr',i2,rfl,rfl,?_⟩;rw[qta,hrs,List.map_append,List.map_append];have e:decide (V.int (rs.getD i 0)=V.int 0)=decide (rs.getD i 0=0):=decide_eq_decide.mpr ⟨fun z=>V.int.inj z,fun z=>congrArg V.int z⟩;rw[e]
   rfl
 . rintro ys H' ⟨rfl,rfl⟩ lc hlc
   refine⟨lc,_,rfl,SqL.of au,?_⟩
   have e:((rss.take us.length).map fun rs=>decide (rs.getD i 0=0)).all id=p7 rss i:=by
    rw[hlen,List.take_length,List.all_map]
    rfl
   rw[e];exact k _ (aD hlc)
theorem scCommon:FnScope ["minds"] ["minds"] (aB S27):=mkS
theorem Fl(T:Txt P w K mg t):FO P w K mg base 2 t.a27 t.d27 ["minds"] spCommon:=by
 have G24:=Iv (base:=base) T;have G26:=Iw (base:=base) T;refine T.q27.F.ok2 scCommon (fun cdv A outer s H vs Q E hr h=>?_);obtain⟨l,p,ns,us,rss,N,rfl,hl,hp,hpp,h0,h100,hN,hrl,k⟩:=h;have nd:=scCommon.nd;have hlen:=nP hpp
 refine⟨_,(ao (bA (aQ G24 (hr.mo) T.q24.m T.q24.k T.q24.b bx (aa (pvc 0) aj)))
   (aq (aA (cj rfl ["world","minds"] [none,some 0] (gj T.zp (aa (aZ aX T.zd Bt.len (aa (pix aK (pix cg (pvc 0) ak) ak) aj)) aj)) (by kernel_rfl) (fun _ _ _ _ _ _=>(pgl 0 (ndS (l:=["world","minds"])))) (fun _ _ _ _ _ _=>gG (bZ (aQ G26 (hr.mo) T.q26.m T.q26.k T.q26.b aJ (aa (pvc 1) (aa (pvl 0) aj))))) (fun _ _ _ _ _ _=>(pvl 0)))))),?_⟩
 have hnm:Paired (M6 H) us (List.replicate us.length ns):=by
  clear k hrl h0 h100 hl
  induction hpp with
  |nil=>exact .nil
  | cons r _ ih =>
   obtain⟨a,b,h1,h2,h3⟩:=r;exact .cons ⟨a,p,.ref b,h1,h2,hp⟩ (ih (by simpa using hlen))
 refine⟨_,rfl,l,us,_,rfl,hl,hnm,fun z=>?_,fun n r hnr _=>?_,fun n r hnr z=>?_⟩
 . have:=congrArg List.length z
   rw[List.length_replicate]at this;exact absurd this (by show us.length≠0;omega)
 rotate_left
 . refine absurd (fun m hm=>?_) z
   have hm1:=(List.mem_replicate.mp hm).2;have hn1:n∈List.replicate us.length ns:=by rw[hnr];exact qms
   rw[hm1,(List.mem_replicate.mp hn1).2]
 obtain⟨u0,us',rfl⟩:∃ u us',us=u::us':=by
  cases us with
  |nil=>exact absurd h0 (by simp)
  |cons u us'=>exact⟨u,us',rfl⟩
 obtain⟨x0,hx0,a0,r0,rfl,ha0,hr0⟩:=bQ hpp 0 u0 rfl;have f1:=hrl x0 (qmg hx0);refine⟨_,rfl,l,_,0,.ref a0,rfl,rfl,SqL.of hl,b8 (j:=0) rfl,a0,_,1,.ref r0,rfl,rfl,SqT.of ha0,rfl,r0,_,rfl,.inr (SqT.of hr0),_,rfl,by omega,by rw[qlm,f1];omega,?_⟩;rw[qlm,f1,Int.toNat_natCast];refine m6 (n:=N) (fun j zs H'=>Same H H'/\zs.length<=j/\zs=(((List.range j).filter (p7 rss)).map fun i:Nat=>(i:Int)).map V.int) ⟨Same.refl _,qnr _,rfl⟩ (lk (by omega)) (fun j zs H' ⟨_,e,_⟩=>e) ?_ ?_
 . rintro j zs H' hj ⟨s1,hzl,rfl⟩
   refine⟨⟨rfl,trivial⟩,?_⟩;refine⟨_,rfl,_,rfl,l,p,_,rss,j,by rw[Int.zero_add];rfl,s1 _ _ hl,h100,Paired.mapP hpp fun _ _ z=>MindV.mono s1 z,fun rs hrs=>by rw[hrl rs hrs];exact hj,fun H2 s2=>?_⟩;rw[List.range_succ,List.filter_append];cases hb:p7 rss j with
   | true =>
    refine⟨_,rfl,bT ⟨_,rfl,s1.trans s2,by rw[List.length_append];exact Nat.add_le_add hzl (qnr _),?_⟩⟩;rw[List.filter_cons_of_pos hb,List.filter_nil,List.map_append,List.map_append,Int.zero_add]
    rfl
   | false =>
    refine⟨_,rfl,bz ⟨s1.trans s2,by omega,?_⟩⟩;rw[List.filter_cons_of_neg (by rw[hb];decide),List.filter_nil,List.append_nil]
 . rintro zs H' ⟨s1,_,rfl⟩ q hq
   exact k q _ (s1.trans (aD hq)) (s1.free hq) au
def fP(rs:List Int):List Nat:=(List.range rs.length).filter fun i=>decide (rs.getD i 0=0)
def j6(n:Nat)(rs:List Int):Str:=Txt.join " " ((fP rs).map (fc n))
def uh:gO:=fun ns rs ts txt=>txt=j6 ns.length rs
theorem xH(rs:List Int):ug rs.length [rs]=(fP rs).map fun i:Nat=>(i:Int):=by
 unfold ug fP p7
 congr 1
 refine List.filter_congr fun i _=>?_
 show(decide (rs.getD i 0=0) && true)=_;rw[Bool.and_true]
theorem vg(rs:List Int):(fP rs).length <= rs.length:=by
 unfold fP;refine qnt (List.length_filter_le _ _) ?_;rw[List.length_range];exact qnr _
theorem Fo(z:Str)(ys:List Str):(Txt.join z ys).length <= (ys.map (·.length)).sum+ys.length * z.length:=by
 have:=size_glued z ys;show(Builtin.Str.glued z ys).length <= _;rw[this];exact Nat.add_le_add_left (Nat.mul_le_mul_right _ (Nat.sub_le _ _)) _
theorem rn{ys:List Str}{m:Nat}(h:∀ y∈ys,y.length<=m):(ys.map (·.length)).sum <= ys.length * m:=by
 induction ys with
 |nil=>exact qnz _
 | cons y r ih =>
  rw[List.map_cons,List.sum_cons,List.length_cons,Nat.succ_mul];have:=h y qms;have:=ih fun z hz=>h z (qmm _ hz)
  omega
theorem pM(n wd:Nat):(fc n wd).length <= n:=by
 unfold fc;refine qnt (Fo _ _) ?_;have e0:("":Str).length=0:=rfl;rw[e0,Nat.mul_zero,Nat.add_zero];refine qnt (rn (m:=1) fun y hy=>?_) ?_
 . obtain⟨i,_,rfl⟩:=List.mem_map.mp hy
   exact Nat.le_of_eq (jN wd i).1
 . rw[qlm,List.length_range]
   omega
theorem qx{n:Nat}(h8:n<=8){rs:List Int}(h:rs.length<=256):(((fP rs).map (fc n)).map (·.length)).sum+((fP rs).map (fc n)).length * (" ":Str).length <= 5000:=by
 have l1:(" ":Str).length=1:=by decide +kernel
 have h1:=rn (ys:=(fP rs).map (fc n)) (m:=8) fun y hy=>by
  obtain⟨i,_,rfl⟩:=List.mem_map.mp hy;exact qnt (pM n i) h8
 have h2:=vg rs;rw[qlm]at h1 ⊢;rw[l1];have:(fP rs).length * 8<=256 * 8:=Nat.mul_le_mul_right _ (by omega);omega
theorem scWorlds:FnScope ["mind","trees"] ["mind","trees"] (aB S85):=mkS
theorem Fp(T:Txt P w K mg t):FO P w K mg base 123 t.a85 t.d85 ["mind","trees"] (spAn uh):=by
 have G27:=Fl (base:=base) T;have G82:=xq (base:=base) T;refine T.q85.F.ok2 (k:=122) scWorlds (fun cdv A outer s H vs Q E hr h=>?_);obtain⟨a,p,r,l,rs,us,ns,ts,txt,rfl,hm,hM,hp,h8,hnd,hl,hP,hok,hL,k⟩:=h;have hL:txt=j6 ns.length rs:=hL;subst hL;have nd:=scWorlds.nd;refine⟨_,(aq (aA (bW PySem.F.plainAttrs_str PySem.F.slot_str_join PySem.F.type_str_join jZ az (aa (cj rfl ["world","mind"] [none,some 0] (cZ (aQ G27 (hr.mo) T.q27.m T.q27.k T.q27.b bx (aa (bF (aa (pvc 0) aj)) aj))) (by kernel_rfl) (fun _ _ _ _ _ _=>(pgl 0 (ndS (l:=["world","mind"])))) (fun _ _ _ _ _ _=>cN) (fun _ _ _ _ _ _=>(aQ G82 (hr.mo) T.q82.m T.q82.k T.q82.b aJ (aa (pix (mK (K:=K)) (pvc 1) ak) (aa (pvl 0) aj))))) aj)))),?_⟩;have h256:=hm.2.2;refine⟨rfl,_,rfl,lk (by first|exact qnb rfl|simp),fun l1 hl1=>?_⟩;have s1:=aD (o:=.lst [.ref a]) hl1;refine⟨l1,p,ns,[.ref a],[rs],rs.length,rfl,au,s1 _ _ hp,.cons ⟨a,r,rfl,s1 _ _ hm.1,s1 _ _ hm.2.1⟩ .nil,qnb rfl,qnb rfl,h256,fun x hx=>by rw[List.mem_singleton.mp hx],fun q H1 s2 _ hq=>?_⟩;have s12:=s1.trans s2;rw[xH]at hq;have hzl:=vg rs;refine⟨q,rfl,⟨_,SqL.of hq⟩,?_⟩;refine gA (K:=K) (a:=q) (xs:=((fP rs).map fun i:Nat=>(i:Int)).map V.int) (fun i ys H'=>Same H1 H'/\ys=(((fP rs).take i).map (fc ns.length)).map V.str) ⟨Same.refl _,rfl⟩ (lk (by rw[qlm,qlm];omega)) (fun i ys H' ⟨_,e⟩=>by rw[e,qlm,qlm,List.length_take];omega) (fun i ys H' ⟨s',_⟩=>SqL.of (s' _ _ hq)) ?_ ?_
 . rintro i y ys H2 hi ⟨s3,rfl⟩
   rw[qgm,qgm]at hi
   obtain⟨c,hc,rfl⟩:∃ c:Nat,(fP rs)[i]? = some c/\y=V.int (c:Int):=by
    cases q:(fP rs)[i]? with
    |none=>rw[q]at hi;cases hi
    |some c=>rw[q]at hi;exact⟨c,rfl,(qsi hi).symm⟩
   have s13:=s12.trans s3;refine⟨⟨rfl,trivial⟩,_,rfl,a,_,0,.ref p,rfl,rfl,SqT.of (s13 _ _ hm.1),rfl,_,rfl,p,ns,c,rfl,s13 _ _ hp,h8,fun H3 s4=>⟨s3.trans s4,?_⟩⟩;rw[qta,hc,List.map_append,List.map_append]
   rfl
 rintro ys H2 ⟨s3,rfl⟩ l2 hl2;rw[qlm,qlm,List.take_length];refine⟨_,l2,_,rfl,rfl,SqL.of au,qnt (qx h8 h256) (by decide),k _ ((s12.trans s3).trans (aD hl2))⟩
def jd(ns:List Str)(rs:List Int)(t1 t2:Tr):Nat:=(fj rs (aC ns t1) &&& aC ns t2).log2
def nQ(ns:List Str)(rs:List Int)(t1 t2:Tr):Str:=if fZ (aO (sel rs (aC ns t2)))=true then(if cH ns t1 rs t2=true then "goes "++fc ns.length (jd ns rs t1 t2)else "stays")else "not held"
def BW:gO:=fun ns rs ts txt=>∃(t1 t2:Tr)(x:Int),ts=[t1,t2]/\aO (sel rs (aC ns t1))=some x/\txt=nQ ns rs t1 t2
theorem Iz{ns:List Str}{t1 t2:Tr}{rs:List Int}{x:Int}(hM:Mind ns rs)(hx:aO (sel rs (aC ns t1))=some x)(h:cH ns t1 rs t2=true):∃ y,TwoL ns t1 rs x y:=by
 by_cases h0:aR ns t1=0
 . have hn:aO (sel rs (aR ns t1))=none:=by
    cases hq:aO (sel rs (aR ns t1))with
    |none=>rfl
    | some y =>
     obtain⟨i,_,hb,_⟩:=mem_sel.mp (bh hq).1;rw[h0,Nat.zero_testBit]at hb;cases hb
   have e:dg ns t1 rs=rs:=by
    unfold dg;rw[hx,hn]
   unfold cH at h;rw[e]at h;cases hz:fZ (aO (sel rs (aC ns t2))) <;> rw[hz]at h <;> cases h
 . obtain⟨y,hy⟩:=nO hM h0
   exact⟨y,hM.len,hx,hy⟩
theorem z6{ns:List Str}{t1 t2:Tr}{rs:List Int}{x:Int}(hM:Mind ns rs)(hx:aO (sel rs (aC ns t1))=some x)(h:cH ns t1 rs t2=true):
  ((Builtin.Int.intBits ((fj rs (aC ns t1) &&& aC ns t2:Nat):Int):Nat):Int) - 1=((jd ns rs t1 t2:Nat):Int)/\jd ns rs t1 t2<2 ^ ns.length/\rs.getD (jd ns rs t1 t2) 0=x/\(aR ns t1 ||| aR ns t2).testBit (jd ns rs t1 t2)=false:=by
 obtain⟨y,h2⟩:=Iz hM hx h;obtain⟨j,e,hj,hr,hb⟩:=BV h2 hM h
 have hne:fj rs (aC ns t1) &&& aC ns t2≠0:=by
  intro z;rw[z]at e;have:((Builtin.Int.intBits ((0:Nat):Int):Nat):Int) - 1 = -1:=by decide
  omega
 have hw:=(xG hne).1
 have ej:jd ns rs t1 t2=j:=by
  unfold jd;omega
 rw[ej];exact⟨e,hj,hr,hb⟩
theorem scLostAns:FnScope ["mind","trees","pairs"] ["mind","trees"] (aB S84):=mkS
theorem BX(T:Txt P w K mg t):FO P w K mg base 123 t.a84 t.d84 ["mind","trees"] (spAn BW):=by
 have G32:=KY (base:=base) T;have G20:=t6 (base:=base) T;have G82:=xq (base:=base) T;refine T.q84.F.ok2 (k:=122) scLostAns (fun cdv A outer s H vs Q E hr h=>?_);obtain⟨a,p,r,l,rs,us,ns,ts,txt,rfl,hm,hM,hp,h8,hnd,hl,hP,hok,⟨t1,t2,x,rfl,hx,rfl⟩,k⟩:=h;have nd:=scLostAns.nd
 obtain⟨v1,v2,rfl,hv1,hv2⟩:∃ v1 v2,us=[v1,v2]/\TrAt H v1 t1/\TrAt H v2 t2:=by
  cases hP with
  | cons a b =>
   cases b with
   | cons c d =>
    cases d;exact⟨_,_,rfl,a,c⟩
 obtain⟨o1,n1⟩:=hok t1 qms;obtain⟨o2,n2⟩:=hok t2 (qmm _ qms)
 refine⟨_,(ao (psl 2 nd (aQ G32 (hr.mo) T.q32.m T.q32.k T.q32.b bx (aa (pvl 0) (aa (pix cg (pvl 1) ak) (aa (bF (aa (pix cg (pvl 1) ak) aj)) aj)))))
   (ao (aV (cQ (bZ (aQ G20 (hr.mo) T.q20.m T.q20.k T.q20.b bx (aa (pvl 0) (aa (pix cg (pvl 1) ak) aj)))))
    (aq (aA az))
    aP)
   (ao (aV (aH aW (aZ aX T.zd Bt.len (aa (pvl 2) aj)) ak (aN _))
    (aq (aA az))
    aP)
   (aq (aA (aG bj az (aQ G82 (hr.mo) T.q82.m T.q82.k T.q82.b aJ (aa (pix aK (pvl 0) ak) (aa (pix aK (pix cg (pvl 2) ak) ak) aj))))))))),?_⟩
 refine⟨_,rfl,_,rfl,l,_,0,v1,rfl,rfl,SqL.of hl,b8 (j:=0) rfl,_,rfl,l,_,1,v2,rfl,rfl,SqL.of hl,b8 (j:=1) rfl,lk (by first|exact qnb rfl|simp),fun lo hlo=>?_⟩;have s1:=aD (o:=.lst [v2]) hlo;refine⟨a,p,r,lo,rs,v1,ns,t1,[v2],[t2],rfl,hm.same s1,hM,s1 _ _ hp,h8,hnd,hv1.mono s1.tups,o1,au,qnb rfl,.cons (hv2.mono s1.tups) .nil,fun u hu=>by rw[List.mem_singleton.mp hu];exact o2,fun _=>?_,fun z=>absurd ⟨n1,fun u hu=>by rw[List.mem_singleton.mp hu];exact n2⟩ z⟩;rw[hx];intro lp ps H1 s2 _ hlp hPp;have s12:=s1.trans s2
 have el:jX (cH ns t1 rs) [t2] [t2].length=if cH ns t1 rs t2=true then [(0,t2)]else []:=by
  have:=sY (cH ns t1 rs) [t2] 0;exact this
 rw[el]at hPp;unfold nQ at k;refine⟨_,rfl,_,rfl,l,_,1,v2,rfl,rfl,SqL.of (s12 _ _ hl),b8 (j:=1) rfl,a,p,r,rs,v2,ns,t2,rfl,hm.same s12,o2.fits (s12 _ _ hp) h8 hnd (hv2.mono s12.tups),fun _ H2 s3=>⟨_,rfl,?_⟩,fun z=>absurd n2 z⟩;have s13:=s12.trans s3;cases hh:fZ (aO (sel rs (aC ns t2)))with
 | false =>
  rw[hh,qnZ qbf]at k;exact bT (k H2 s13)
 | true =>
  rw[hh,qp rfl]at k;refine bz ?_;cases hz:cH ns t1 rs t2 with
  | false =>
   rw[hz,qnZ qbf]at k hPp;have:ps=[]:=by cases hPp;rfl
   subst this;refine⟨_,rfl,lp,_,rfl,.inl (SqL.of (s3 _ _ hlp)),rfl,_,rfl,aU (fun _=>k H2 s13) (fun z=>absurd (qdt rfl) z)⟩
  | true =>
   rw[hz,qp rfl]at k hPp
   obtain⟨u,rfl,qu,rfl,hqu⟩:∃ u,ps=[u]/\∃ q,u = .ref q/\H1 q=some (.tup [.int (0:Nat),.int (Builtin.Int.intBits ((fj rs (aC ns t1) &&& aC ns t2:Nat):Int) - 1)]):=by
    obtain⟨u,e,q,h1,h2⟩:=iY hPp;exact⟨u,e,q,h1,h2⟩
   obtain⟨ge,_⟩:=z6 hM hx hz;rw[ge]at hqu;have hm2:=hm.same s13;refine⟨_,rfl,lp,_,rfl,.inl (SqL.of (s3 _ _ hlp)),rfl,_,rfl,aU (fun z=>absurd (V.int.inj (qod z)) (by show ¬ ((1:Nat):Int)=0;decide)) (fun _=>?_)⟩;refine⟨_,rfl,a,_,0,.ref p,rfl,rfl,SqT.of hm2.1,rfl,_,rfl,lp,_,0,.ref qu,rfl,rfl,SqL.of (s3 _ _ hlp),b8 (j:=0) rfl,qu,_,1,_,rfl,rfl,SqT.of (s3 _ _ hqu),rfl,p,ns,jd ns rs t1 t2,rfl,s13 _ _ hp,h8,fun H3 s4=>?_⟩;have e5:("goes ":Str).length=5:=by decide +kernel
   have hwl:=pM ns.length (jd ns rs t1 t2);have sz:1000<=sizeLine:=by decide
   exact⟨_,_,rfl,rfl,by omega,k H3 (s13.trans s4)⟩
inductive spWT(vs:List V)(H:Hp)(Q:VK)(E:XK):Prop
 |mk (p:Addr) (ns:List Str) (wd:Nat) (_:vs=[.ref p,.int (wd:Int)]) (_:H p=some (.tup (ns.map V.str))) (_:ns.length<=8) (_:∀ H',Same H H'->Q (.str (fc ns.length wd)) H')
inductive spWsT(vs:List V)(H:Hp)(Q:VK)(E:XK):Prop
 |mk (a p r:Addr) (ns:List Str) (rs:List Int) (_:vs=[.ref a]) (_:MindAt H a p r rs) (_:H p=some (.tup (ns.map V.str))) (_:ns.length<=8) (_:∀ H',Same H H'->Q (.str (j6 ns.length rs)) H')
inductive spAskF(vs:List V)(H:Hp)(Q:VK)(E:XK):Prop
 |mk (a p r:Addr) (v:V) (ns:List Str) (rs:List Int) (tr:Tr) (_:vs=[.ref a,v,.str (pI rs ns tr)]) (_:MindAt H a p r rs) (_:Mind ns rs) (_:H p=some (.tup (ns.map V.str))) (_:ns.length<=8) (_:TrAt H v tr) (_:tr.depth<=5) (_:(∀ x∈tr.names,x∈ns)) (_:(∀ m y,aO (sel rs (aC ns tr))=some m->aO (sel rs (aR ns tr))=some y->(m - y).natAbs.log2<1920)) (_:∀ H',Same H H'->Q (.bl true) H')
inductive spLostF(vs:List V)(H:Hp)(Q:VK)(E:XK):Prop
 |mk (a p r:Addr) (v1 v2:V) (ns:List Str) (rs:List Int) (t1 t2:Tr) (x:Int) (_:vs=[.ref a,v1,v2,.str (nQ ns rs t1 t2)]) (_:MindAt H a p r rs) (_:Mind ns rs) (_:H p=some (.tup (ns.map V.str))) (_:ns.length<=8) (_:TrAt H v1 t1) (_:TrAt H v2 t2) (_:t1.depth<=5) (_:t2.depth<=5) (_:(∀ x∈t1.names,x∈ns)) (_:(∀ x∈t2.names,x∈ns)) (_:aO (sel rs (aC ns t1))=some x) (_:∀ H',Same H H'->Q (.bl true) H')
theorem iK(x:Str){y:Str}(h:x=y):decide (V.str x=V.str y)=true:=qdt (by rw[h])
def goB(ns:List Str)(rs:List Int)(t1 t2:Tr)(x:Int)(j:Nat):Bool:=decide (rs.getD j 0=x) && (!(aR ns t1).testBit j && !(aR ns t2).testBit j)
def goL(ns:List Str)(rs:List Int)(t1 t2:Tr)(x:Int)(m:Nat):List Str:=((List.range m).filter (goB ns rs t1 t2 x)).map fun j => "goes "++fc ns.length j
theorem IK(ns:List Str)(rs:List Int)(t1 t2:Tr)(x:Int)(m:Nat):goL ns rs t1 t2 x (m+1)=goL ns rs t1 t2 x m++if goB ns rs t1 t2 x m=true then ["goes "++fc ns.length m]else []:=by
 unfold goL;rw[List.range_succ,List.filter_append,List.map_append];cases h:goB ns rs t1 t2 x m with
 |true=>rw[List.filter_cons_of_pos h,List.filter_nil];rfl
 |false=>rw[List.filter_cons_of_neg (by rw[h];decide),List.filter_nil];rfl
theorem KZ(ns:List Str)(rs:List Int)(t1 t2:Tr)(x:Int)(m:Nat):(goL ns rs t1 t2 x m).length <= m:=by
 unfold goL;rw[qlm];refine qnt (List.length_filter_le _ _) ?_;rw[List.length_range];exact qnr _
theorem IV{ns:List Str}{rs:List Int}{t1 t2:Tr}{x:Int}(hM:Mind ns rs)(hx:aO (sel rs (aC ns t1))=some x)(hh:fZ (aO (sel rs (aC ns t2)))=true)(hl:cH ns t1 rs t2=false):goL ns rs t1 t2 x rs.length=[]:=by
 unfold goL;rw[List.filter_eq_nil_iff.mpr]
 . rfl
 . intro j hj hg
   have hj:=List.mem_range.mp hj;have hj2:j<2 ^ ns.length:=by rw[<- hM.len];exact hj
   unfold goB at hg;obtain⟨g1,g2⟩:=Bool.and_eq_true_iff.mp hg;obtain⟨g2,g3⟩:=Bool.and_eq_true_iff.mp g2;have g1:=qod g1;rw[bO,qdt hj2,Bool.true_and]at g2 g3;have g2:bu (inW ns j) t1=false:=by simpa using g2
   have g3:bu (inW ns j) t2=false:=by simpa using g3
   unfold cH at hl;rw[hh,Bool.true_and]at hl;have hv:fZ (aO (sel (dg ns t1 rs) (aC ns t2)))=true:=by simpa using hl
   have:=((uQ hx hM).mp ((rm (hM.giveM t1) t2).mp hv)).2 j hj2 g2 g1;rw[g3]at this;cases this
theorem xJ{ns:List Str}{rs:List Int}{t1 t2:Tr}{x:Int}(hM:Mind ns rs)(hx:aO (sel rs (aC ns t1))=some x)(hl:cH ns t1 rs t2=true):("goes "++fc ns.length (jd ns rs t1 t2):Str)∈goL ns rs t1 t2 x rs.length:=by
 obtain⟨_,hj,hr,hb⟩:=z6 hM hx hl;unfold goL;refine List.mem_map.mpr ⟨jd ns rs t1 t2,List.mem_filter.mpr ⟨List.mem_range.mpr (by rw[hM.len];exact hj),?_⟩,rfl⟩;rw[Nat.testBit_or]at hb;unfold goB;rw[qdt hr,(Bool.or_eq_false_iff.mp hb).1,(Bool.or_eq_false_iff.mp hb).2]
 rfl
theorem K1{a:Str}{l:List Str}(h:a∈l):inV (.str a) (l.map V.str)=true:=by
 unfold inV;rw[List.any_eq_true];refine⟨.str a,List.mem_map.mpr ⟨a,h,rfl⟩,?_⟩;show(a == a)=true;exact beq_self_eq_true a
theorem K3(l:List Int)(i:Int):inV (.int i) (l.map V.int)=decide (i∈l):=by
 rw[Bool.eq_iff_iff,decide_eq_true_iff];unfold inV;rw[List.any_eq_true]
 constructor
 . rintro⟨v,hv,he⟩
   obtain⟨j,hj,rfl⟩:=List.mem_map.mp hv;have he:(j == i)=true\/(i == j)=true:=by first|exact .inl he|exact .inr he
   rcases he with he|he
   . rw[<- eq_of_beq he];exact hj
   . rw[eq_of_beq he];exact hj
 . intro h
   exact⟨.int i,List.mem_map.mpr ⟨i,h,rfl⟩,beq_self_eq_true i⟩
theorem BZ(l:List Int):(l.map V.int).all eY=true:=by
 rw[List.all_eq_true];intro v hv;obtain⟨n,_,rfl⟩:=List.mem_map.mp hv
 rfl
theorem Fq{ns:List Str}{rs:List Int}(hM:Mind ns rs)(t2:Tr):decide ((0:Int)∈sel rs (aC ns t2)) = !fZ (aO (sel rs (aC ns t2))):=by
 cases h:aO (sel rs (aC ns t2))with
 | none =>
  have:sel rs (aC ns t2)=[]:=fY h;rw[this]
  rfl
 | some m =>
  have h0:=hM.leastM t2 h;show _ = !decide (0<m)
  by_cases c:m=0
  . have:(0:Int)∈sel rs (aC ns t2):=by
     have:=(bh h).1;rw[c]at this;exact this
    rw[qdt this,c]
    rfl
  . have:¬ (0:Int)∈sel rs (aC ns t2):=fun z=>by
     have:=(bh h).2 0 z;omega
    rw[qdf this,qdt (show 0<m by omega)]
    rfl
theorem scWT:FnScope ["_law_names","_law_world"] ["_law_names","_law_world"] (aB GR):=mkS
theorem JG(T:Txt P w K mg t):FO P w K mg base 1 t.a103 t.d103 ["_law_names","_law_world"] spWT:=by
 refine T.q103.F.ok2 scWT (fun cdv A outer s H vs Q E hr h=>?_);obtain⟨p,ns,wd,rfl,hp,h8,k⟩:=h;have nd:=scWT.nd;refine⟨_,(aq (aA (bW PySem.F.plainAttrs_str PySem.F.slot_str_join PySem.F.type_str_join jZ az (aa (cj rfl ["_law_k","_law_world"] [none,some 1] (gj T.zp (aa (aZ aX T.zd Bt.len (aa (pvl 0) aj)) aj)) (by kernel_rfl) (fun _ _ _ _ _ _=>(pgl 0 (ndS (l:=["_law_k","_law_world"])))) (fun _ _ _ _ _ _=>cN) (fun _ _ _ _ _ _=>(dh fQ T.zr Bt.str (aa (aG eX (aG mC (pvc 1) (pvl 0)) ak) aj)))) aj)))),?_⟩;have el:(ns.map V.str).length=ns.length:=qlm _;refine⟨rfl,_,rfl,p,_,rfl,.inr (SqT.of hp),_,rfl,by omega,by rw[el];omega,?_⟩;rw[Int.toNat_natCast,el];refine c7 (lo:=0) (n:=ns.length) (fun i=>V.str (toString ((di wd i:Nat):Int):String)) (qnt h8 (by decide)) (fun i R hi hR=>?_) fun l hl=>?_
 . refine⟨⟨rfl,trivial⟩,_,rfl,_,rfl,_,_,rfl,rfl,(by show(0:Int)<=0+(i:Int);omega),_,_,rfl,rfl,?_⟩
   try dsimp -proj -iota only
   rw[Int.zero_add,tX];exact⟨_,rfl,(jN wd i).2,hR⟩
 have em:((List.range ns.length).map fun i=>V.str (toString ((di wd i:Nat):Int):String))=(((List.range ns.length).map fun(i:Nat)=>((toString ((di wd i:Nat):Int):String):Str)).map V.str):=by
  rw[List.map_map]
  rfl
 rw[em];refine⟨_,l,_,rfl,rfl,SqL.of au,?_,k _ (aD hl)⟩;have e0:("":Str).length=0:=rfl;rw[e0,Nat.mul_zero,Nat.add_zero];refine qnt (rn (m:=1) fun y hy=>?_) ?_
 . obtain⟨i,_,rfl⟩:=List.mem_map.mp hy
   exact Nat.le_of_eq (jN wd i).1
 . rw[qlm,List.length_range]
   omega
theorem scWsT:FnScope ["_law_mind"] ["_law_mind"] (aB GX):=mkS
theorem M7(T:Txt P w K mg t):FO P w K mg base 2 t.a104 t.d104 ["_law_mind"] spWsT:=by
 have G103:=JG (base:=base) T;refine T.q104.F.ok2 scWsT (fun cdv A outer s H vs Q E hr h=>?_);obtain⟨a,p,r,ns,rs,rfl,hm,hp,h8,k⟩:=h;have nd:=scWsT.nd;refine⟨_,(aq (aA (bW PySem.F.plainAttrs_str PySem.F.slot_str_join PySem.F.type_str_join jZ az (aa (cj rfl ["_law_world","_law_rank","_law_mind"] [none,none,some 0] (jF (pix aK (pvc 0) ak) T.zm) (by kernel_rfl) (fun _ _ _ _ _ _=>(iI (K:=K) (n:=2) rfl rfl (bB (pgl 0 (ndS (l:=["_law_world","_law_rank","_law_mind"]))) (bB (pgl 1 (ndS (l:=["_law_world","_law_rank","_law_mind"]))) dR)))) (fun _ _ _ _ _ _=>gG (aH aW (pvl 1) ak (aN _))) (fun _ _ _ _ _ _=>(aQ G103 (hr.mo) T.q103.m T.q103.k T.q103.b aJ (aa (pix (mK (K:=K)) (pvc 2) ak) (aa (pvl 0) aj))))) aj)))),?_⟩;refine⟨rfl,_,rfl,a,_,1,.ref r,rfl,rfl,SqT.of hm.1,rfl,r,rfl,⟨_,SqT.of hm.2.1⟩,?_⟩
 refine gJ (K:=K) (a:=r) (xs:=rs.map V.int) (fun i ys H'=>Same H H'/\ys=(((List.range i).filter fun j=>decide (rs.getD j 0=0)).map (fc ns.length)).map V.str) ⟨Same.refl _,rfl⟩ (lk (by rw[qlm];have:=hm.2.2;omega)) (fun i ys H' ⟨_,e⟩=>by
  rw[e,qlm,qlm];refine qnt (List.length_filter_le _ _) ?_
  rw[List.length_range];exact qnr _) (fun i ys H' ⟨s1,_⟩=>SqT.of (s1 _ _ hm.2.1)) ?_ ?_
 . rintro i y ys H1 hi ⟨s1,rfl⟩ e he
   rw[qgm]at hi
   obtain⟨x,hx,rfl⟩:∃ x,rs[i]? = some x/\y=V.int x:=by
    cases q:rs[i]? with
    |none=>rw[q]at hi;cases hi
    |some x=>rw[q]at hi;exact⟨x,rfl,(qsi hi).symm⟩
   have ex:rs.getD i 0=x:=by rw[List.getD,hx];rfl
   have s2:=s1.trans (aD (o:=.tup [.int i,.int x]) he)
   have es:((List.range (i+1)).filter fun j=>decide (rs.getD j 0=0))=((List.range i).filter fun j=>decide (rs.getD j 0=0))++if x=0 then [i]else []:=by
    rw[List.range_succ,List.filter_append,List.filter_cons,ex]
    by_cases h:x=0
    . rw[qdt h,qp rfl,qp h];rfl
    . rw[qdf h,qnZ qbf,qnZ h];rfl
   refine⟨e,_,rfl,SqT.of au,rfl,_,_,rfl,_,_,rfl,rfl,⟨rfl,trivial⟩,?_⟩;refine⟨_,rfl,rfl,_,rfl,aU (fun z=>?_) (fun z=>?_)⟩
   . have z:x=0:=V.int.inj (qod z)
     rw[es,qp z,List.map_append,List.map_append];exact⟨_,rfl,a,_,0,.ref p,rfl,rfl,SqT.of (s2 _ _ hm.1),rfl,_,rfl,p,ns,i,rfl,s2 _ _ hp,h8,fun H3 s3=>⟨s2.trans s3,rfl⟩⟩
   . have z:¬ x=0:=fun e=>z (qdt (by rw[e]))
     rw[es,qnZ z,List.append_nil];exact⟨s2,rfl⟩
 rintro ys H1 ⟨s1,rfl⟩ l hl;rw[qlm];exact⟨_,l,_,rfl,rfl,SqL.of au,qnt (qx h8 hm.2.2) (by decide),k _ (s1.trans (aD hl))⟩
theorem scAskF:FnScope ["_law_mind","_law_tree","_law_answer","_law_sides_here","_law_lean"] ["_law_mind","_law_tree","_law_answer"] (aB GZ):=mkS
theorem K4(T:Txt P w K mg t):FO P w K mg base 8 t.a105 t.d105 ["_law_mind","_law_tree","_law_answer"] spAskF:=by
 have G97:=jJ (base:=base) T 5;have G100:=vf (base:=base) T;refine T.q105.F.ok2 (k:=7) scAskF (fun cdv A outer s H vs Q E hr h=>?_);obtain⟨a,p,r,v,ns,rs,tr,rfl,hm,hM,hp,h8,ht,hd,hn,hlog,k⟩:=h;have nd:=scAskF.nd;have hu:=gF hr
 refine⟨_,(ao (psl 3 nd (aQ G100 (hr.mo) T.q100.m T.q100.k T.q100.b aJ (aa (pix aK (pvl 0) ak) (aa (aQ G97 (hr.mo) T.q97.m T.q97.k T.q97.b aJ (aa (pix aK (pvl 0) ak) (aa (pvl 1) aj))) aj))))
   (ao (aV (aH (qK (Nat.lt_of_succ_lt hu)) (pix aK (pvl 3) ak) (bF aj) (aN _))
    (aq (aA (cF aW (pvl 2) az (aN _))))
    aP)
   (ao (aV (aH (qK (Nat.lt_of_succ_lt hu)) (pix aK (pvl 3) ak) (bF aj) (aN _))
    (aq (aA (cF aW (pvl 2) az (aN _))))
    aP)
   (ao (psl 4 nd (aG dW (aZ (oH rfl) T.zA Bt.min (aa (pix aK (pvl 3) ak) aj)) (aZ (oH rfl) T.zA Bt.min (aa (pix aK (pvl 3) ak) aj))))
   (ao (aV (aH lC (pvl 4) ak (aN _))
    (aq (aA (cF aW (pvl 2) (aG bj az (dh fQ T.zr Bt.str (aa (pvl 4) aj))) (aN _))))
    aP)
   (ao (aV (aH lB (pvl 4) ak (aN _))
    (aq (aA (cF aW (pvl 2) (aG bj az (dh fQ T.zr Bt.str (aa (lA jD (pvl 4)) aj))) (aN _))))
    aP)
   (aq (aA (cF aW (pvl 2) az (aN _)))))))))),?_⟩
 refine⟨_,rfl,a,_,1,.ref r,rfl,rfl,SqT.of hm.1,rfl,_,rfl,a,_,0,.ref p,rfl,rfl,SqT.of hm.1,rfl,_,rfl,p,v,ns,tr,rfl,hp,h8,ht,hd,hn,fun H1 s1=>⟨r,rs,aR ns tr,rfl,s1 _ _ hm.2.1,hm.2.2,fun q l1 l2 H2 s2 hq hl1 hl2=>?_⟩⟩;rw[nM hM.len]at hl2;have s12:=s1.trans s2;generalize hT:pI rs ns tr=txt;unfold pI at hT;refine⟨_,rfl,q,_,1,.ref l2,rfl,rfl,SqT.of hq,rfl,lk (by first|exact qnb rfl|simp),fun le hle=>?_⟩;have s3:=aD (o:=.lst []) hle;refine⟨l2,le,_,rfl,rfl,SqL.of (s3 _ _ hl2),SqL.of au,_,rfl,aU (fun z=>?_) (fun z=>?_)⟩
 . have hz:sel rs (aC ns tr)=[]:=List.map_eq_nil_iff.mp (List.isEmpty_iff.mp z)
   have hn:aO (sel rs (aC ns tr))=none:=by rw[hz];rfl
   rw[hn]at hT;refine⟨_,rfl,rfl,?_⟩
   try dsimp -proj -iota only
   rw[iK txt hT.symm];exact k _ (s12.trans s3)
 obtain⟨m,hmm⟩:∃ m,aO (sel rs (aC ns tr))=some m:=by
  cases e:aO (sel rs (aC ns tr))with
  |some m=>exact⟨m,rfl⟩
  | none =>
   have:sel rs (aC ns tr)=[]:=fY e;exact absurd (by show(List.map V.int (sel rs (aC ns tr))).isEmpty=true;rw[this];rfl) z
 generalize upd H2 le (.lst [])=H3 at s3 ⊢;have s13:=s12.trans s3;refine⟨_,rfl,q,_,0,.ref l1,rfl,rfl,SqT.of (s3 _ _ hq),rfl,lk (by first|exact qnb rfl|simp),fun le2 hle2=>?_⟩;have s4:=aD (o:=.lst []) hle2;have s34:=s3.trans s4;refine⟨l1,le2,_,rfl,rfl,SqL.of (s34 _ _ hl1),SqL.of au,_,rfl,aU (fun z2=>?_) (fun z2=>?_)⟩
 . have hz:sel rs (aR ns tr)=[]:=List.map_eq_nil_iff.mp (List.isEmpty_iff.mp z2)
   have hn:aO (sel rs (aR ns tr))=none:=by rw[hz];rfl
   rw[hmm,hn]at hT;refine⟨_,rfl,rfl,?_⟩
   try dsimp -proj -iota only
   rw[iK txt hT.symm];exact k _ (s13.trans s4)
 obtain⟨y,hy⟩:∃ m,aO (sel rs (aR ns tr))=some m:=by
  cases e:aO (sel rs (aR ns tr))with
  |some m=>exact⟨m,rfl⟩
  | none =>
   have:sel rs (aR ns tr)=[]:=fY e;exact absurd (by show(List.map V.int (sel rs (aR ns tr))).isEmpty=true;rw[this];rfl) z2
 generalize upd H3 le2 (.lst [])=H4 at s4 s34 ⊢;have s14:=s13.trans s4;have p1:0<(sel rs (aC ns tr)).length:=List.length_pos_of_mem (bh hmm).1;have p2:0<(sel rs (aR ns tr)).length:=List.length_pos_of_mem (bh hy).1;refine⟨_,rfl,q,_,1,.ref l2,rfl,rfl,SqT.of (s34 _ _ hq),rfl,l2,_,rfl,SqL.of (s34 _ _ hl2),p1,fun M a1 a2=>?_⟩;obtain rfl:m=M:=qsi (hmm.symm.trans (jl a1 a2));refine⟨_,rfl,q,_,0,.ref l1,rfl,rfl,SqT.of (s34 _ _ hq),rfl,l1,_,rfl,SqL.of (s34 _ _ hl1),p2,fun M b1 b2=>?_⟩;obtain rfl:y=M:=qsi (hy.symm.trans (jl b1 b2));rw[hmm,hy]at hT;have hT:sO (m - y)=txt:=hT;have hlg:=hlog m y hmm hy;refine⟨_,_,rfl,rfl,?_⟩
 try dsimp -proj -iota only
 generalize m - y=i at hT hlg ⊢;unfold sO at hT;refine⟨_,rfl,_,_,rfl,rfl,_,rfl,aU (fun g=>?_) (fun g=>?_)⟩
 . have g:0<i:=qod g
   rw[qnZ (by omega),qp g]at hT;refine⟨_,rfl,_,rfl,i,rfl,hlg,_,_,rfl,rfl,?_,rfl,?_⟩
   . have:=PyProof.Rows.int_text_len_1921 hlg
     have e5:("held ":Str).length=5:=by decide +kernel
     rw[e5];exact qnt (Nat.add_le_add_left this 5) (by decide)
   . try dsimp -proj -iota only
     rw[iK txt hT.symm];exact k _ s14
 have g:¬ 0<i:=fun e=>g (qdt e)
 refine⟨_,rfl,_,_,rfl,rfl,_,rfl,aU (fun g2=>?_) (fun g2=>?_)⟩
 . have g2:i<0:=qod g2
   rw[qnZ (by omega),qnZ g]at hT;refine⟨_,rfl,_,rfl,_,rfl,-i,rfl,by rw[Int.natAbs_neg];exact hlg,_,_,rfl,rfl,?_,rfl,?_⟩
   . have:=PyProof.Rows.int_text_len_1921 (i:=-i) (by rw[Int.natAbs_neg];exact hlg)
     have e7:("denied ":Str).length=7:=by decide +kernel
     rw[e7];exact qnt (Nat.add_le_add_left this 7) (by decide)
   . try dsimp -proj -iota only
     rw[iK txt hT.symm];exact k _ s14
 have g2:¬ i<0:=fun e=>g2 (qdt e)
 rw[qp (by omega)]at hT;refine⟨_,rfl,rfl,?_⟩
 try dsimp -proj -iota only
 rw[iK txt hT.symm];exact k _ s14
theorem scLostFits:FnScope ["_law_mind","_law_tree","_law_other","_law_answer","_law_told","_law_beyond","_law_least","_law_some","_law_world","_law_rank"] ["_law_mind","_law_tree","_law_other","_law_answer"] (aB Hc):=mkS
theorem IW(T:Txt P w K mg t):FO P w K mg base 8 t.a106 t.d106 ["_law_mind","_law_tree","_law_other","_law_answer"] spLostF:=by
 have G97:=jJ (base:=base) T 5;have G100:=vf (base:=base) T;have G103:=JG (base:=base) T;refine T.q106.F.ok2 (k:=7) scLostFits (fun cdv A outer s H vs Q E hr h=>?_);obtain⟨a,p,r,v1,v2,ns,rs,t1,t2,x,rfl,hm,hM,hp,h8,ht1,ht2,hd1,hd2,hn1,hn2,hx,k⟩:=h;have nd:=scLostFits.nd;have hu:=gF hr
 refine ⟨_,(ao (psl 4 nd (aQ G97 (hr.mo) T.q97.m T.q97.k T.q97.b aJ (aa (pix aK (pvl 0) ak) (aa (pvl 1) aj))))
   (ao (psl 5 nd (aQ G97 (hr.mo) T.q97.m T.q97.k T.q97.b aJ (aa (pix aK (pvl 0) ak) (aa (pvl 2) aj))))
   (ao (aV (aH uC ak (pix aK (aQ G100 (hr.mo) T.q100.m T.q100.k T.q100.b aJ (aa (pix aK (pvl 0) ak) (aa (pvl 5) aj))) ak) (by with_unfolding_all rfl))
    (aq (aA (cF aW (pvl 3) az (aN _))))
    aP)
   (ao (psl 6 nd (aZ (oH rfl) T.zA Bt.min (aa (pix aK (aQ G100 (hr.mo) T.q100.m T.q100.k T.q100.b aJ (aa (pix aK (pvl 0) ak) (aa (pvl 4) aj))) ak) aj)))
   (ao (psl 7 nd (bF aj))
   (ao (dU own1 rfl (jF (pix aK (pvl 0) ak) T.zm) (mz (n:=2) rfl (bB (pgl 8 nd) (bB (pgl 9 nd) dR)))
    (aq (aV (PW.pt (jC (aH aW (pvl 9) (pvl 6) (aN _)) (jC (aH aW (aG eX (aG mC (pvl 4) (pvl 8)) ak) ak (aN _)) (jf (aH aW (aG eX (aG mC (pvl 5) (pvl 8)) ak) ak (aN _))))))
     (aq (bA (bW PySem.F.plainAttrs_list PySem.F.slot_list_append PySem.F.type_list_append cM (pvl 7) (aa (aG bj az (aQ G103 (hr.mo) T.q103.m T.q103.k T.q103.b aJ (aa (pix aK (pvl 0) ak) (aa (pvl 8) aj)))) aj))))
     aP)))
   (ao (aV (aH (qK (Nat.lt_of_succ_lt hu)) (pvl 7) (bF aj) (aN _))
    (aq (aA (cF aW (pvl 3) az (aN _))))
    aP)
   (aq (aA (cF uC (pvl 3) (pvl 7) (by with_unfolding_all rfl))))))))))),?_⟩
 have h256:=hm.2.2;generalize hT:nQ ns rs t1 t2=txt;refine⟨_,rfl,a,_,0,.ref p,rfl,rfl,SqT.of hm.1,rfl,_,rfl,p,v1,ns,t1,rfl,hp,h8,ht1,hd1,hn1,fun H1 s1=>?_⟩;refine⟨_,rfl,a,_,0,.ref p,rfl,rfl,SqT.of (s1 _ _ hm.1),rfl,_,rfl,p,v2,ns,t2,rfl,s1 _ _ hp,h8,ht2.mono s1.tups,hd2,hn2,fun H2 s2=>?_⟩;have s12:=s1.trans s2;refine⟨_,rfl,a,_,1,.ref r,rfl,rfl,SqT.of (s12 _ _ hm.1),rfl,_,rfl,r,rs,aR ns t2,rfl,s12 _ _ hm.2.1,h256,fun q l1 l2 H3 s3 hq hl1 hl2=>?_⟩;rw[nM hM.len]at hl2;have s13:=s12.trans s3;refine⟨q,_,1,.ref l2,rfl,rfl,SqT.of hq,rfl,l2,_,rfl,.inl (SqL.of hl2),rfl,BZ _,?_⟩;rw[qnZ qbf,K3,Fq hM];unfold nQ at hT;refine⟨_,rfl,aU (fun z=>?_) (fun z=>?_)⟩
 . have hh:¬ fZ (aO (sel rs (aC ns t2)))=true:=fun e=>by rw[e]at z;cases z
   rw[qnZ hh]at hT;refine⟨_,rfl,rfl,?_⟩
   try dsimp -proj -iota only
   rw[iK txt hT.symm];exact k _ s13
 have hh:fZ (aO (sel rs (aC ns t2)))=true:=Classical.byContradiction fun e=>z (by rw[Bool.eq_false_iff.mpr e];rfl)
 rw[qp hh]at hT;refine⟨_,rfl,a,_,1,.ref r,rfl,rfl,SqT.of (s13 _ _ hm.1),rfl,_,rfl,r,rs,aR ns t1,rfl,s13 _ _ hm.2.1,h256,fun q2 l3 l4 H4 s4 hq2 hl3 hl4=>?_⟩;rw[nM hM.len]at hl4;have s14:=s13.trans s4;have p1:0<(sel rs (aC ns t1)).length:=List.length_pos_of_mem (bh hx).1;refine⟨q2,_,1,.ref l4,rfl,rfl,SqT.of hq2,rfl,l4,_,rfl,SqL.of hl4,p1,fun M a1 a2=>?_⟩;obtain rfl:x=M:=qsi (hx.symm.trans (jl a1 a2));refine⟨lk (by first|exact qnb rfl|simp),fun ls hls=>?_⟩;have s5:=aD (o:=.lst []) hls;have s15:=s14.trans s5;have hls0:H ls=none:=s14.free hls
 refine⟨_,rfl,a,_,1,.ref r,rfl,rfl,SqT.of (s15 _ _ hm.1),rfl,r,rfl,⟨_,SqT.of (s15 _ _ hm.2.1)⟩,uL (K:=K) (a:=r) (xs:=rs.map V.int)
  (fun i σ H'=>∃(o8 o9:Option V),σ=[some (.ref a),some v1,some v2,some (.str txt),some (.int (aR ns t1:Nat)),some (.int (aR ns t2:Nat)),some (.int x),some (.ref ls),o8,o9]/\Same H H'/\H' ls=some (.lst ((goL ns rs t1 t2 x i).map V.str)))
  ⟨none,none,rfl,s15,au⟩ (fun i σ H' _ ⟨_,_,_,s',_⟩=>SqT.of (s' _ _ hm.2.1)) ?_ ?_⟩
 . rintro i y σ H5 hi ⟨o8,o9,rfl,s6,hl5⟩ d hd
   have hi256:i<rs.length:=by
    have:=(List.getElem?_eq_some_iff.mp hi).1;rw[qlm]at this;exact this
   rw[qgm]at hi
   obtain⟨c,hc,rfl⟩:∃ c,rs[i]? = some c/\y=V.int c:=by
    cases q:rs[i]? with
    |none=>rw[q]at hi;cases hi
    |some c=>rw[q]at hi;exact⟨c,rfl,(qsi hi).symm⟩
   have ec:rs.getD i 0=c:=by rw[List.getD,hc];rfl
   have v1':=aD (o:=.tup [.int i,.int c]) hd;refine⟨d,_,rfl,SqT.of au,rfl,_,_,rfl,_,_,rfl,rfl,?_⟩;have hl6:=v1' _ _ hl5;have s7:=s6.trans v1';generalize upd H5 d (.tup [.int i,.int c])=H6 at s7 hl6 ⊢;have es:=IK ns rs t1 t2 x i
   have skip:goB ns rs t1 t2 x i=false->H6 ls=some (.lst ((goL ns rs t1 t2 x (i+1)).map V.str)):=fun e=>by
    rw[es,e,qnZ qbf,List.append_nil];exact hl6
   refine⟨_,rfl,_,rfl,rfl,_,rfl,aU (fun g1=>?_) (fun g1=>bz ?_)⟩
   . have g1:c=x:=V.int.inj (qod g1)
     refine⟨_,rfl,_,rfl,_,_,rfl,rfl,Int.natCast_nonneg i,_,_,rfl,rfl,?_⟩
     try dsimp -proj -iota only
     rw[tX];refine⟨rfl,_,rfl,aU (fun g2=>?_) (fun g2=>bz ?_)⟩
     . have g2:(aR ns t1).testBit i=false:=by
        have g2:((di (aR ns t1) i:Nat):Int)=0:=V.int.inj (qod g2);unfold di at g2;cases hb:(aR ns t1).testBit i with
        |false=>rfl
        |true=>rw[hb,qp rfl]at g2;exact absurd g2 (by decide)
       refine⟨_,rfl,_,rfl,_,_,rfl,rfl,Int.natCast_nonneg i,_,_,rfl,rfl,?_⟩
       try dsimp -proj -iota only
       rw[tX];refine⟨rfl,_,rfl,aU (fun g3=>?_) (fun g3=>?_)⟩
       . have g3:(aR ns t2).testBit i=false:=by
          have g3:((di (aR ns t2) i:Nat):Int)=0:=V.int.inj (qod g3);unfold di at g3;cases hb:(aR ns t2).testBit i with
          |false=>rfl
          |true=>rw[hb,qp rfl]at g3;exact absurd g3 (by decide)
         have eg:goB ns rs t1 t2 x i=true:=by
          unfold goB;rw[ec,qdt g1,g2,g3]
          rfl
         refine⟨_,rfl,.inl ⟨rfl,_,SqL.of hl6⟩,_,rfl,a,_,0,.ref p,rfl,rfl,SqT.of (s7 _ _ hm.1),rfl,_,rfl,p,ns,i,rfl,s7 _ _ hp,h8,fun H7 s8=>?_⟩;have e5:("goes ":Str).length=5:=by decide +kernel
         have hwl:=pM ns.length i;have sz:1000<=sizeLine:=by decide
         have hl7:=s8 _ _ hl6;have hgl:=KZ ns rs t1 t2 x i;refine⟨_,_,rfl,rfl,by omega,ls,_,_,rfl,rfl,hl7,dO (by rw[qlm];omega),?_⟩;refine⟨_,_,rfl,fun b o e=>?_,?_⟩
         . rw[aF (aM e hls0)]
           exact s8 _ _ (s7 _ _ e)
         . rw[au,es,eg,qp rfl,List.map_append]
           rfl
       . refine⟨_,_,rfl,s7,skip ?_⟩
         have g3:(aR ns t2).testBit i=true:=by
          cases hb:(aR ns t2).testBit i with
          |true=>rfl
          | false =>
           refine absurd (qdt ?_) g3;unfold di;rw[hb,qnZ qbf]
           rfl
         unfold goB;rw[g3];simp
     . refine⟨_,_,rfl,s7,skip ?_⟩
       have g2:(aR ns t1).testBit i=true:=by
        cases hb:(aR ns t1).testBit i with
        |true=>rfl
        | false =>
         refine absurd (qdt ?_) g2;unfold di;rw[hb,qnZ qbf]
         rfl
       unfold goB;rw[g2];simp
   . refine⟨_,_,rfl,s7,skip ?_⟩
     have g1:¬ c=x:=fun e=>g1 (qdt (by rw[e]))
     unfold goB;rw[ec,qdf g1]
     rfl
 . rintro σ H5 ⟨o8,o9,rfl,s6,hl5⟩
   rw[qlm]at hl5;refine⟨_,rfl,lk (by first|exact qnb rfl|simp),fun le hle=>?_⟩;have s7:=aD (o:=.lst []) hle;refine⟨ls,le,_,rfl,rfl,SqL.of (s7 _ _ hl5),SqL.of au,_,rfl,aU (fun z2=>?_) (fun z2=>?_)⟩
   . have hz:goL ns rs t1 t2 x rs.length=[]:=List.map_eq_nil_iff.mp (List.isEmpty_iff.mp z2)
     have hl:¬ cH ns t1 rs t2=true:=fun e=>by
      have:=xJ hM hx e;rw[hz]at this;cases this
     rw[qnZ hl]at hT;refine⟨_,rfl,rfl,?_⟩
     try dsimp -proj -iota only
     rw[iK txt hT.symm];exact k _ (s6.trans s7)
   . have hl:cH ns t1 rs t2=true:=by
      cases e:cH ns t1 rs t2 with
      |true=>rfl
      | false =>
       refine absurd ?_ z2;show((goL ns rs t1 t2 x rs.length).map V.str).isEmpty=true;rw[IV hM hx hh e]
       rfl
     rw[qp hl]at hT;refine⟨_,rfl,_,rfl,ls,_,rfl,.inl (SqL.of (s7 _ _ hl5)),rfl,sI _,?_⟩;rw[qnZ qbf,<- hT,K1 (xJ hM hx hl)];exact k _ (s6.trans s7)
def M8(ns:List Str)(tr:Tr)(kd:Str):Prop:=(kd="take"/\aR ns tr≠0)\/(kd="give"/\aR ns tr≠cz ns.length)\/(kd="lean"/\aR ns tr≠0/\aR ns tr≠cz ns.length)\/(kd="lost"/\aR ns tr≠cz ns.length)\/kd="worlds"\/kd="ask"
def NbOk(kd:Str)(num:Int):Prop:=(kd="lean"/\-(10 ^ 30)<num/\num<10 ^ 30)\/(¬ kd="lean"/\0<num/\num<10 ^ 30)
structure TrOk(ns:List Str)(tr:Tr):Prop where
 dp:tr.depth<=4
 sz:tr.size<=100
 nm:∀ x∈tr.names,x∈ns
def Vb6(kd:Str):Prop:=kd="take"\/kd="give"\/kd="lean"\/kd="lost"\/kd="worlds"\/kd="ask"
theorem lu{ns:List Str}{tr:Tr}{kd:Str}(h:M8 ns tr kd):Vb6 kd:=by
 rcases h with⟨z,_⟩|⟨z,_⟩|⟨z,_⟩|⟨z,_⟩|z|z
 . exact .inl z
 . exact .inr (.inl z)
 . exact .inr (.inr (.inl z))
 . exact .inr (.inr (.inr (.inl z)))
 . exact .inr (.inr (.inr (.inr (.inl z))))
 . exact .inr (.inr (.inr (.inr (.inr z))))
structure TrO5(ns:List Str)(tr:Tr):Prop where
 dp:tr.depth<=5
 sz:tr.size<=200
 nm:∀ x∈tr.names,x∈ns
 ln:(wrT tr).length <= 150
structure Pl where
 (kd:Str) (num:Int) (tr ot:Tr)
structure PlOk(ns:List Str)(x:Pl):Prop where
 tr:TrOk ns x.tr
 ot:TrO5 ns x.ot
 vb:M8 ns x.tr x.kd
 nb:NbOk x.kd x.num
def ju(i:Int):Str:=if i=0 then " : " else if i=1 then ":" else if i=2 then ": " else " :"
def bL(x:Pl):Str:=if x.kd="take"\/x.kd="lean" then x.kd++" "++eF x.num++" "++wrT x.tr else if x.kd="lost" then "lost "++wrT x.tr++ju (x.num % 4)++wrT x.ot else if x.kd="worlds" then "worlds" else x.kd++" "++wrT x.tr
theorem M9{m:Int}(h0:0<=m)(h4:m<4):atI [V.str " : ",V.str ":",V.str ": ",V.str " :"] m=some (.str (ju m)):=by
 obtain⟨n,rfl⟩:∃ n:Nat,m=(n:Int):=⟨m.toNat,by omega⟩
 match n,(by omega:n<4)with
 | 0,_=>rfl
 | 1,_=>rfl
 | 2,_=>rfl
 | 3,_=>rfl
theorem z7(m:Int):(ju m).length <= 3:=by
 unfold ju
 split
 . decide +kernel
 . split
   . decide +kernel
   . split <;> decide +kernel
theorem gf{ns:List Str}(hN:Names ns){tr:Tr}(h:∀ x∈tr.names,x∈ns):dJ tr:=fun x hx=>lM (hN.nm x (h x hx))
theorem z8{i:Int}(h1 : -(10 ^ 30)<i)(h2:i<10 ^ 30):i.natAbs.log2<1920:=by
 by_cases h0:i.natAbs=0
 . rw[h0];decide
 . refine(Nat.log2_lt h0).mpr ?_
   have:i.natAbs<10 ^ 30:=by omega
   exact Nat.lt_trans this (by decide)
theorem nR{i:Int}(h1 : -(10 ^ 30)<i)(h2:i<10 ^ 30):(eF i).length <= 31:=by
 rw[jz];rcases Int.lt_or_le i 0 with hi|hi
 . obtain⟨n,rfl⟩:∃ n:Nat,i = -((n+1:Nat):Int):=⟨(-i).toNat - 1,by omega⟩
   rw[kZ (by omega)];have:=(iu 29 (n+1)).2;show(cL 29 (n+1)).length+1<=31;omega
 . obtain⟨n,rfl⟩:∃ n:Nat,i=(n:Int):=⟨i.toNat,by omega⟩
   rw[iw (by omega)];have:=(iu 29 n).2;show(cL 29 n).length <= 31;omega
theorem NbOk.rng{kd:Str}{num:Int}(h:NbOk kd num): -(10 ^ 30)<num/\num<10 ^ 30:=by
 rcases h with⟨_,h⟩|⟨_,h1,h2⟩
 . exact h
 . exact⟨by omega,h2⟩
theorem kd_len{kd:Str}(h:Vb6 kd):kd.length<=6:=by
 rcases h with z|z|z|z|z|z <;> rw[z] <;> decide +kernel
theorem jw{ns:List Str}(hN:Names ns){tr:Tr}(h:TrOk ns tr):(wrT tr).length <= 99:=by
 rw[jz];exact qnt (pL (gf hN h.nm)) (jc h.dp)
theorem rz{ns:List Str}(hN:Names ns){x:Pl}(h:PlOk ns x):(bL x).length <= 270:=by
 have h1:=kd_len (lu h.vb);have h2:=jw hN h.tr;have h3:=nR h.nb.rng.1 h.nb.rng.2;have h4:=h.ot.ln;have h5:=z7 (x.num % 4);have l2:(" ":Str).length=1:=by decide +kernel
 have l5:("lost ":Str).length=5:=by decide +kernel
 have l6:("worlds":Str).length=6:=by decide +kernel
 unfold bL
 split
 . rw[Str.length_append,Str.length_append,Str.length_append,Str.length_append]
   omega
 . split
   . rw[Str.length_append,Str.length_append,Str.length_append]
     omega
   . split
     . omega
     . rw[Str.length_append,Str.length_append]
       omega
def nT(ns:List Str)(pls:List Pl):Str:=Txt.join "\n" (("names" ++ " "++Txt.join " " ns):: pls.map bL)
theorem xK(z:Str)(ys:List Str):(Txt.join z ys).length <= (ys.map (·.length)).sum+ys.length * z.length:=by
 have:=size_glued z ys;show(Builtin.Str.glued z ys).length <= _;rw[this];exact Nat.add_le_add_left (Nat.mul_le_mul_right _ (Nat.sub_le _ _)) _
theorem xM{ys:List Str}{m:Nat}(h:∀ y∈ys,y.length<=m):(ys.map (·.length)).sum <= ys.length * m:=by
 induction ys with
 |nil=>exact qnz _
 | cons y r ih =>
  rw[List.map_cons,List.sum_cons,List.length_cons,Nat.succ_mul];have:=h y qms;have:=ih fun z hz=>h z (qmm _ hz)
  omega
theorem vh{ns:List Str}(hN:Names ns)(h8:ns.length<=8):(ns.map (·.length)).sum+ns.length * (" ":Str).length <= 72/\(Txt.join " " ns).length <= 72:=by
 have l2:(" ":Str).length=1:=by decide +kernel
 have h1:=xM (ys:=ns) (m:=8) fun y hy=>by
  rw[jz];exact(hN.nm y hy).le
 have h2:=xK " " ns;have h3:ns.length * 8<=64:=by omega
 rw[l2]at h2 ⊢;omega
theorem um(a b c:Str):a++b++c=a++(b++c):=jM (by rw[bR,bR,bR,bR,List.append_assoc])
theorem Ft:iW "take"=some sG:=qp rfl
theorem Fv:iW "lean"=some sH:=by
 unfold iW;rw[qnZ (by decide +kernel),qnZ (by decide +kernel),qp rfl]
theorem Fw {kd:Str} (h:kd="give"\/kd="ask"):iW kd=some vQ:=by
 unfold iW;rw[qnZ (by rcases h with e|e <;> rw[e] <;> decide +kernel),qp h]
theorem Fx:iW "lost"=some nF:=by
 unfold iW;rw[qnZ (by decide +kernel),qnZ (by decide +kernel),qnZ (by decide +kernel),qnZ (by decide +kernel),qnZ (by decide +kernel),qp rfl]
theorem yj:iW "worlds"=some sE:=by
 unfold iW;rw[qnZ (by decide +kernel),qnZ (by decide +kernel),qnZ (by decide +kernel),qnZ (by decide +kernel),qp (.inr (.inr rfl))]
def fB(x:Pl):List Tr:=if x.kd="lost" then [x.tr,x.ot]else if x.kd="worlds" then []else [x.tr]
def lZ(x:Pl):Str×V×List Tr:=(x.kd,if x.kd="take"\/x.kd="lean" then .int x.num else .non,fB x)
theorem JH(m:Int):∃ pre post:List Nat,(ju m).cps.toList=pre++58::post/\(pre=[]\/pre=[32])/\(post=[]\/post=[32]):=by
 unfold ju
 split
 . exact⟨[32],[32],by decide +kernel,.inr rfl,.inr rfl⟩
 . split
   . exact⟨[],[],by decide +kernel,.inl rfl,.inl rfl⟩
   . split
     . exact⟨[],[32],by decide +kernel,.inl rfl,.inr rfl⟩
     . exact⟨[32],[],by decide +kernel,.inr rfl,.inl rfl⟩
theorem Nb{x:Str}(h:58∈x.cps.toList):Txt.contains x ":"=true:=by
 have e:=Jy;cases hc:Txt.contains x ":" with
 |true=>rfl
 | false =>
  have ho:(Builtin.Str.occurrences x ":" 0 x.length 1).isEmpty=true:=by
   unfold Txt.contains at hc
   simpa using hc
  have:=PyProof.Rows.isIn_false ho e;rw[PyProof.Rows.isIn_signs]at this
  have hm:(PyProof.Rows.signs x).any (· == (⟨#[58]⟩:Str))=true:=by
   rw[List.any_eq_true];refine⟨⟨#[58]⟩,?_,beq_self_eq_true _⟩;unfold PyProof.Rows.signs;exact List.mem_map.mpr ⟨58,h,rfl⟩
  rw[hm]at this;cases this
theorem xN{A:Str}(h:Clean A){pre:List Nat}(hp:pre=[]\/pre=[32]):gD (jo (A.cps.toList++pre))=A:=by
 rcases hp with rfl|rfl
 . rw[List.append_nil,pK rfl]
   exact lY h
 . refine jM ?_
   unfold gD;rw[nA,tV,sy]
   have h1:¬ (A.cps.toList++[32]).head? = some 32:=by
    obtain⟨c,e,hc⟩:=h.hd;cases hA:A.cps.toList with
    |nil=>rw[hA]at e;cases e
    | cons d r =>
     rw[hA]at e;have e:some d=some c:=e;intro z;have z:some d=some 32:=z;rw[e]at z;exact hc (qsi z)
   rw[nG h1,List.reverse_append]
   have h2:¬ A.cps.toList.reverse.head? = some 32:=by
    obtain⟨c,e,hc⟩:=h.la;rw[List.head?_reverse,e];exact fun z=>hc (qsi z)
   show((32::A.cps.toList.reverse).dropWhile (· == 32)).reverse=_;rw[List.dropWhile_cons,qp (by decide),nG h2,List.reverse_reverse]
theorem yl{A:Str}(h:Clean A){post:List Nat}(hp:post=[]\/post=[32]):gD (jo (post++A.cps.toList))=A:=by
 rcases hp with rfl|rfl
 . rw[List.nil_append,pK rfl]
   exact lY h
 . refine jM ?_
   unfold gD;rw[nA,tV,sy];show(((32::A.cps.toList).dropWhile (· == 32)).reverse.dropWhile (· == 32)).reverse=_;rw[List.dropWhile_cons,qp (by decide),nG h.hd']
   have h2:¬ A.cps.toList.reverse.head? = some 32:=by
    obtain⟨c,e,hc⟩:=h.la;rw[List.head?_reverse,e];exact fun z=>hc (qsi z)
   rw[nG h2,List.reverse_reverse]
theorem Ca{A B:Str}(hA:Clean A)(hB:Clean B)(h58:58∉A.cps.toList)(m:Int):nF (A++ju m++B)=some (.non,[A,B]):=by
 obtain⟨pre,post,e,h1,h2⟩:=JH m
 have el:(A++ju m++B:Str).cps.toList=(A.cps.toList++pre)++58::(post++B.cps.toList):=by
  rw[bR,bR,e];simp
 have hp:58∉A.cps.toList++pre:=fun z=>by
  rcases List.mem_append.mp z with z|z
  . exact h58 z
  . rcases h1 with rfl|rfl
    . cases z
    . exact absurd (List.mem_singleton.mp z) (by decide)
 unfold nF;rw[qp (Nb (by rw[el];simp)),el,(kY hp _).1,(kY hp _).2,xN hA h1,yl hB h2]
theorem sZ{A B:Str}(hA:Clean A)(hB:Clean B)(m:Int):Clean (A++ju m++B):=by
 obtain⟨pre,post,e,h1,h2⟩:=JH m
 have el:(A++ju m++B:Str).cps.toList=A.cps.toList++((pre++58::post)++B.cps.toList):=by
  rw[bR,bR,e,List.append_assoc]
 refine⟨?_,?_,?_⟩
 . rw[el]
   intro z;rcases List.mem_append.mp z with z|z
   . exact hA.nl z
   . rcases List.mem_append.mp z with z|z
     . rcases h1 with rfl|rfl <;> rcases h2 with rfl|rfl <;> simp at z
     . exact hB.nl z
 . obtain⟨c,hc,hn⟩:=hA.hd
   refine⟨c,?_,hn⟩;rw[el];cases hA':A.cps.toList with
   |nil=>rw[hA']at hc;cases hc
   |cons d r=>rw[hA']at hc;exact hc
 . obtain⟨c,hc,hn⟩:=hB.la
   refine⟨c,?_,hn⟩;rw[el,List.getLast?_append,List.getLast?_append,hc]
   rfl
theorem vm{i:Int}(h1 : -(10 ^ 30)<i)(h2:i<10 ^ 30):32∉(eF i).cps.toList/\10∉(eF i).cps.toList/\¬ (eF i).cps.toList.head? = some 32:=by
 have key:∀ n k:Nat,∀ c∈cL k n,¬ c=32/\¬ c=10:=fun n k c hc=>by
  have:=nH k n c hc;omega
 rcases Int.lt_or_le i 0 with hi|hi
 . obtain⟨n,rfl⟩:∃ n:Nat,i = -((n+1:Nat):Int):=⟨(-i).toNat - 1,by omega⟩
   rw[kZ (by omega)];refine⟨fun z=>?_,fun z=>?_,fun z=>by cases z⟩
   . rcases List.mem_cons.mp z with z|z
     . exact absurd z (by decide)
     . exact(key _ _ _ z).1 rfl
   . rcases List.mem_cons.mp z with z|z
     . exact absurd z (by decide)
     . exact(key _ _ _ z).2 rfl
 . obtain⟨n,rfl⟩:∃ n:Nat,i=(n:Int):=⟨i.toNat,by omega⟩
   rw[iw (by omega)];refine⟨fun z=>(key _ _ _ z).1 rfl,fun z=>(key _ _ _ z).2 rfl,fun z=>?_⟩;have:(32:Nat)∈cL 29 n:=List.mem_of_head? z;exact(key _ _ _ this).1 rfl
theorem z9{kd:Str}(h:Vb6 kd):32∉kd.cps.toList/\10∉kd.cps.toList/\∃ c,kd.cps.toList.head? = some c/\¬ c=32:=by
 rcases h with z|z|z|z|z|z <;> rw[z]
 . exact⟨by decide +kernel,by decide +kernel,116,by decide +kernel,by decide⟩
 . exact⟨by decide +kernel,by decide +kernel,103,by decide +kernel,by decide⟩
 . exact⟨by decide +kernel,by decide +kernel,108,by decide +kernel,by decide⟩
 . exact⟨by decide +kernel,by decide +kernel,108,by decide +kernel,by decide⟩
 . exact⟨by decide +kernel,by decide +kernel,119,by decide +kernel,by decide⟩
 . exact⟨by decide +kernel,by decide +kernel,97,by decide +kernel,by decide⟩
theorem xO {x:Pl} (h:x.kd="lost"):bL x=x.kd++" "++(wrT x.tr++ju (x.num % 4)++wrT x.ot):=by
 unfold bL;rw[qnZ (by rw[h];decide +kernel),qp h,h,show("lost ":Str)="lost" ++ " " by decide +kernel,um ("lost" ++ " "++wrT x.tr),um ("lost" ++ " "),um (wrT x.tr)]
theorem uo {x:Pl} (h:x.kd="take"\/x.kd="lean"):bL x=x.kd++" "++(eF x.num++" "++wrT x.tr):=by
 unfold bL;rw[qp h,um,um (x.kd++" ")]
 congr 1
 rw[um]
theorem vp{ns:List Str}(hN:Names ns){x:Pl}(h:PlOk ns x):Clean (bL x):=by
 obtain⟨k1,k2,k3⟩:=z9 (lu h.vb);obtain⟨n1,n2,n3⟩:=vm h.nb.rng.1 h.nb.rng.2;have hw:=jt (gf hN h.tr.nm)
 by_cases hk:x.kd="take"\/x.kd="lean"
 . rw [uo hk]
   refine iJ k2 k3 (iJ n2 ?_ hw);cases hq:(eF x.num).cps.toList with
   | nil =>
    have:(eF x.num).cps.toList≠[]:=by
     rcases Int.lt_or_le x.num 0 with hi|hi
     . obtain⟨n,e⟩:∃ n:Nat,x.num = -((n+1:Nat):Int):=⟨(-x.num).toNat - 1,by omega⟩
       have:=h.nb.rng;rw[e,kZ (by omega)];exact List.cons_ne_nil _ _
     . obtain⟨n,e⟩:∃ n:Nat,x.num=(n:Int):=⟨x.num.toNat,by omega⟩
       have:=h.nb.rng;rw[e,iw (by omega)];have:=(iu 29 n).1;intro z;have z:cL 29 n=[]:=z;rw[z]at this;exact absurd this (by decide)
    exact absurd hq this
   | cons c r =>
    refine⟨c,rfl,fun z=>n3 ?_⟩;rw[hq,z]
    rfl
 . by_cases h2:x.kd="lost"
   . rw[xO h2]
     exact iJ k2 k3 (sZ hw (jt (gf hN h.ot.nm)) _)
   . unfold bL
     rw[qnZ hk,qnZ h2]
     split
     . rename_i h3
       exact⟨by decide +kernel,⟨119,by decide +kernel,by decide⟩,⟨115,by decide +kernel,by decide⟩⟩
     . exact iJ k2 k3 hw
theorem Ja{ns:List Str}(hN:Names ns){x:Pl}(h:PlOk ns x)(i:Nat):BK (i,bL x) (lZ x):=by
 obtain⟨k1,k2,k3⟩:=z9 (lu h.vb);obtain⟨n1,n2,n3⟩:=vm h.nb.rng.1 h.nb.rng.2;have hno:=gf hN h.tr.nm;have hw:=jt hno;have hl:=rz hN h;have hwl:=jw hN h.tr;rw[jz]at hwl;have hrd:Rd1 (wrT x.tr) x.tr:=yX hno (by have:=h.tr.dp;omega) (by omega);have hlen:(bL x).length <= gb:=qnt hl (by decide);refine⟨hlen,?_⟩;show cI (bL x)=x.kd/\∃(O:Str->Option (V×List Str)) (ss:List Str),iW x.kd=some O/\O (bJ (bL x))=some ((if x.kd="take"\/x.kd="lean" then .int x.num else .non),ss)/\Paired Rd1 ss (fB x)/\ss.length<=10
 by_cases hk:x.kd="take"\/x.kd="lean"
 . have hv : ¬ (eF x.num++" "++wrT x.tr:Str).cps.toList.head? = some 32:=by
    rw[bR,bR];cases hq:(eF x.num).cps.toList with
    | nil => rw[ud];intro z;exact absurd hq (by
      intro z2;have c:=vp hN h;rw[uo hk]at c;have:=c.la;rcases Int.lt_or_le x.num 0 with hi|hi
      . obtain⟨n,e⟩:∃ n:Nat,x.num = -((n+1:Nat):Int):=⟨(-x.num).toNat - 1,by omega⟩
        have:=h.nb.rng;rw[e,kZ (by omega)]at z2;cases z2
      . obtain⟨n,e⟩:∃ n:Nat,x.num=(n:Int):=⟨x.num.toNat,by omega⟩
        have:=h.nb.rng;rw[e,iw (by omega)]at z2;have:=(iu 29 n).1;have z2:cL 29 n=[]:=z2;rw[z2]at this
        exact absurd this (by decide))
    | cons c r =>
     intro z;have z:some c=some 32:=z;exact n3 (by rw[hq];exact z)
   have et:fB x=[x.tr]:=by
    unfold fB;rw[qnZ (by rcases hk with e|e <;> rw[e] <;> decide +kernel),qnZ (by rcases hk with e|e <;> rw[e] <;> decide +kernel)]
   rw[uo hk,(iZ k1 hv).1,(iZ k1 hv).2,qp hk,et];refine⟨rfl,?_⟩;have f1:=(iZ n1 hw.hd').1;have f2:=(iZ n1 hw.hd').2;rcases hk with e|e
   . refine⟨sG,[wrT x.tr],by rw[e];exact Ft,?_,.cons hrd .nil,qnb rfl⟩
     unfold sG;rw[f1,f2]
     obtain⟨n,hn⟩:∃ n:Nat,x.num=(n:Int):=by
      rcases h.nb with⟨z,_⟩|⟨_,h0,_⟩
      . rw[e]at z;exact absurd z (by decide +kernel)
      . exact⟨x.num.toNat,by omega⟩
     have hpos:0<n/\n<10 ^ 30:=by
      rcases h.nb with⟨z,_⟩|⟨_,h0,h1⟩
      . rw[e]at z;exact absurd z (by decide +kernel)
      . omega
     rw[hn,Ff hpos.1 hpos.2]
     rfl
   . refine⟨sH,[wrT x.tr],by rw[e];exact Fv,?_,.cons hrd .nil,qnb rfl⟩
     unfold sH;rw[f1,f2,Fg h.nb.rng.1 h.nb.rng.2]
     rfl
 . by_cases h2:x.kd="lost"
   . have hno2:=gf hN h.ot.nm
     have hw2:=jt hno2;have hwl2:=h.ot.ln;rw[jz]at hwl2;have hrd2:Rd1 (wrT x.ot) x.ot:=yX hno2 (by have:=h.ot.dp;omega) (by omega);have hc:=sZ hw hw2 (x.num % 4);have et:fB x=[x.tr,x.ot]:=qp h2;rw[xO h2,(iZ k1 hc.hd').1,(iZ k1 hc.hd').2,qnZ hk,et];exact⟨rfl,nF,[wrT x.tr,wrT x.ot],by rw[h2];exact Fx,Ca hw hw2 (fun z=>(qY (jr hno 58 z)).2.1 rfl) _,.cons hrd (.cons hrd2 .nil),qnb rfl⟩
   . by_cases h3:x.kd="worlds"
     . have er:bL x=x.kd:=by
        unfold bL;rw[qnZ hk,qnZ h2,qp h3,h3]
       have et:fB x=[]:=by
        unfold fB;rw[qnZ h2,qp h3]
       rw[er,(Fb k1).1,(Fb k1).2,qnZ hk,et];exact⟨rfl,sE,[],by rw[h3];exact yj,qp rfl,.nil,qnz _⟩
     . have er:bL x=x.kd++" "++wrT x.tr:=by
        unfold bL;rw[qnZ hk,qnZ h2,qnZ h3]
       have et:fB x=[x.tr]:=by
        unfold fB;rw[qnZ h2,qnZ h3]
       rw[er,(iZ k1 hw.hd').1,(iZ k1 hw.hd').2,qnZ hk,et];refine⟨rfl,vQ,[wrT x.tr],Fw ?_,rfl,.cons hrd .nil,qnb rfl⟩;rcases lu h.vb with e|e|e|e|e|e
       . exact absurd (.inl e) hk
       . exact .inl e
       . exact absurd (.inr e) hk
       . exact absurd e h2
       . exact absurd e h3
       . exact .inr e
theorem tu{n:Str}(h:isName n=true):Clean n:=jt (tr:=.nm n) fun x hx=>by
 rw[List.mem_singleton.mp hx];exact h
theorem nU:∀{ns:List Str},ns≠[]->(∀ n∈ns,isName n=true)->Clean (Txt.join " " ns)
 |[],h,_=>absurd rfl h
 | [n],_,h=>by
  have e:Txt.join " " [n]=n:=StrLaws.glued_eq_join _ _;rw[e];exact tu (h n qms)
 | n::m::r,_,h=>by
  have ih:=nU (ns:=m::r) (List.cons_ne_nil _ _) fun x hx=>h x (qmm _ hx)
  have e1:Txt.join " " (n::m::r)=Str.join " " (n::m::r):=StrLaws.glued_eq_join _ _;have e2:Txt.join " " (m::r)=Str.join " " (m::r):=StrLaws.glued_eq_join _ _;rw[e2]at ih;rw[e1];have hc:=tu (h n qms);exact iJ hc.nl hc.hd ih
theorem names_free:32∉("names":Str).cps.toList/\10∉("names":Str).cps.toList/\∃ c,("names":Str).cps.toList.head? = some c/\¬ c=32:=⟨by decide +kernel,by decide +kernel,110,by decide +kernel,by decide⟩
theorem Fy{ns:List Str}(hnd:ns.Nodup){n:Str}(h:n∈ns):(ns.map V.str).countP (fun z=>eqV z (.str n))=1:=by
 induction ns with
 |nil=>cases h
 | cons m r ih =>
  rw[List.nodup_cons]at hnd;rw[List.map_cons,List.countP_cons];have key:∀ a b:Str,eqV (.str a) (.str b)=decide (a=b):=fun a b=>rfl
  rcases List.mem_cons.mp h with e|h
  . subst e
    have:(r.map V.str).countP (fun z=>eqV z (.str n))=0:=by
     rw[List.countP_eq_zero];intro z hz;obtain⟨w,hw,rfl⟩:=List.mem_map.mp hz;rw[key,qdf (show ¬ w=n from fun e=>hnd.1 (by rw[<- e];exact hw))]
     decide
    rw[this,key,qdt rfl]
    rfl
  . rw[ih hnd.2 h,key,qdf (show ¬ m=n from fun e=>hnd.1 (by rw[e];exact h))]
    rfl
theorem K5{ns:List Str}(hN:Names ns)(h1:1<=ns.length)(h8:ns.length<=8):fO ns=true:=by
 unfold fO;rw[qdt (show(1:Int)<=(ns.length:Int)by omega),qdt (show(ns.length:Int)<=8 by omega)];show(ns.all _)=true;rw[List.all_eq_true];intro n hn;rw[lM (hN.nm n hn),qdt (Fy hN.nd hn)]
 rfl
def cW(ns:List Str)(x:Pl)(rs:List Int):List Int :=
 if x.kd="take" then gY ns x.tr rs x.num else if x.kd="give" then dg ns x.tr rs else match aO (sel rs (aC ns x.tr)),aO (sel rs (aR ns x.tr))with
  |some a,some b=>eZ rs (aC ns x.tr) a b x.num
  |_,_=>rs
def isD(x:Pl):Bool:=decide (x.kd="take"\/x.kd="give"\/x.kd="lean")
def jP(ns:List Str)(x:Pl)(rs:List Int):Str:=if x.kd="ask" then pI rs ns x.tr else if x.kd="lost" then nQ ns rs x.tr x.ot else j6 ns.length rs
def iy(ns:List Str):List Pl->List Int->List (List Int)
 |[],_=>[]
 |x::r,rs=>if isD x=true then cW ns x rs::iy ns r (cW ns x rs)else iy ns r rs
def mj(ns:List Str):List Pl->List Int->List Str
 |[],_=>[]
 |x::r,rs=>if isD x=true then mj ns r (cW ns x rs)else jP ns x rs::mj ns r rs
def xP(kd:Str)(L:gO):Prop:=(kd="ask"/\L=Ij)\/(kd="lost"/\L=BW)\/(kd="worlds"/\L=uh)
theorem rA{ns:List Str}{x:Pl}(h:PlOk ns x)(hk:isD x=false):(x.kd="lost"/\aR ns x.tr≠cz ns.length)\/x.kd="worlds"\/x.kd="ask":=by
 have hk:=of_decide_eq_false hk;rcases h.vb with⟨e,_⟩|⟨e,_⟩|⟨e,_⟩|e|e|e
 . exact absurd (.inl e) hk
 . exact absurd (.inr (.inl e)) hk
 . exact absurd (.inr (.inr e)) hk
 . exact .inl e
 . exact .inr (.inl e)
 . exact .inr (.inr e)
theorem vq{ns:List Str}{x:Pl}{rs:List Int}(h:PlOk ns x)(hM:Mind ns rs)(hk:isD x=true){B:Int}(hB:Bnd B rs):
  sU x.kd ns rs (if x.kd="take"\/x.kd="lean" then .int x.num else .non) (fB x) (cW ns x rs)/\Mind ns (cW ns x rs)/\Bnd (B+10 ^ 31) (cW ns x rs):=by
 have hr:=h.nb.rng;have D0:(0:Int)<=10 ^ 31:=by decide
 have n1:x.num<=10 ^ 31:=by omega
 have n2 : -x.num<=10 ^ 31:=by omega
 have hk:=qod hk
 have et:fB x=[x.tr]:=by
  unfold fB;rw[qnZ (by rcases hk with e|e|e <;> rw[e] <;> decide +kernel),qnZ (by rcases hk with e|e|e <;> rw[e] <;> decide +kernel)]
 rw[et];unfold cW;rcases h.vb with⟨e,h0⟩|⟨e,h0⟩|⟨e,h0,h1⟩|⟨e,_⟩|e|e
 . rw[qp e,qp (.inl e)]
   obtain⟨y,hy⟩:=nO hM h0;exact⟨.inl ⟨e,x.num,x.tr,rfl,rfl,rfl,.inr ⟨y,hy⟩⟩,hM.takeM _ _,Hv hM D0 n1 n2 hB⟩
 . have e1:¬ x.kd="take":=by rw[e];decide +kernel
   rw[qnZ e1,qp e,qnZ (fun z=>by rcases z with z|z <;> rw[e]at z <;> exact absurd z (by decide +kernel))];obtain⟨y,hy⟩:=lR hM h0;exact⟨.inr (.inl ⟨e,x.tr,rfl,rfl,y,hy⟩),hM.giveM _,Hu hM D0 hB⟩
 . have e1:¬ x.kd="take":=by rw[e];decide +kernel
   have e2:¬ x.kd="give":=by rw[e];decide +kernel
   rw[qnZ e1,qnZ e2,qp (.inr e)];obtain⟨a,ha⟩:=lR hM h1;obtain⟨b,hb⟩:=nO hM h0;rw[ha,hb];have h2:TwoL ns x.tr rs a b:=⟨hM.len,ha,hb⟩
   exact⟨.inr (.inr ⟨e,x.num,x.tr,a,b,rfl,rfl,ha,hb,rfl⟩),Mind.turnM h2 _,qP (gC hM ha) (gC hM hb) D0 n1 n2 hB⟩
 . rw[e]at hk
   exact absurd hk (by decide +kernel)
 . rw[e]at hk
   exact absurd hk (by decide +kernel)
 . rw[e]at hk
   exact absurd hk (by decide +kernel)
theorem Fz{ns:List Str}{rs:List Int}{B:Int}(hM:Mind ns rs)(hB:Bnd B rs)(hB2:B<=10 ^ 40)(tr:Tr):∀ m y,aO (sel rs (aC ns tr))=some m->aO (sel rs (aR ns tr))=some y->(m - y).natAbs.log2<1920:=fun m y hm hy=>by
 have m0:=gC hM hm;have y0:=gC hM hy;have m1:=hB m (gK (bh hm).1);have y1:=hB y (gK (bh hy).1)
 by_cases hz:(m - y).natAbs=0
 . rw[hz];decide
 . refine(Nat.log2_lt hz).mpr ?_
   have:(m - y).natAbs <= 10 ^ 40:=by omega
   exact Nat.lt_of_le_of_lt this (by decide)
theorem Nf{ns:List Str}(hN:Names ns)(h8:ns.length<=8){tr:Tr}(h:TrOk ns tr):OkS tr/\∀ x∈tr.names,x∈ns :=
 ⟨⟨qnt h.sz (by decide),qnt h.dp (by decide),⟨ns,by omega,h.nm⟩,fun x hx=>IsName.small (hN.nm x (h.nm x hx))⟩,h.nm⟩
theorem Ol{ns:List Str}(hN:Names ns)(h8:ns.length<=8){tr:Tr}(h:TrO5 ns tr):OkS tr/\∀ x∈tr.names,x∈ns :=
 ⟨⟨qnt h.sz (by decide),qnt h.dp (by decide),⟨ns,by omega,h.nm⟩,fun x hx=>IsName.small (hN.nm x (h.nm x hx))⟩,h.nm⟩
theorem uq{ns:List Str}(hN:Names ns)(h8:ns.length<=8):∀(pls:List Pl)(rs:List Int)(B:Int),(∀ x∈pls,PlOk ns x)->Mind ns rs->Bnd B rs->0<=B->B+(pls.length:Int) * 10 ^ 31<=10 ^ 40->Runs xP ns (pls.map lZ) rs (iy ns pls rs) (mj ns pls rs)
 |[],rs,B,_,_,_,_,_=>.nil rs
 | x::r,rs,B,hok,hM,hB,h0,hB2=>by
  have hx:=hok x qms;have hok':∀ y∈r,PlOk ns y:=fun y hy=>hok y (qmm _ hy)
  rw[List.length_cons,Int.natCast_add,Int.add_mul]at hB2
  have hT:∀ u∈fB x,OkS u/\∀ y∈u.names,y∈ns:=fun u hu=>by
   unfold fB at hu
   split at hu
   . rcases List.mem_cons.mp hu with e|hu
     . rw[e];exact Nf hN h8 hx.tr
     . rw[List.mem_singleton.mp hu]
       exact Ol hN h8 hx.ot
   . split at hu
     . cases hu
     . rw[List.mem_singleton.mp hu]
       exact Nf hN h8 hx.tr
  have p31:(0:Int)<=10 ^ 31:=by decide
  have hl0:(0:Int)<=(r.length:Int) * 10 ^ 31:=Int.mul_nonneg (by omega) p31;cases hk:isD x with
  | false =>
   have ih:=uq hN h8 r rs B hok' hM hB h0 (by omega);show Runs xP ns (lZ x::r.map lZ) rs (if isD x=true then _ else iy ns r rs) (if isD x=true then _ else jP ns x rs::mj ns r rs);rw[hk,qnZ qbf,qnZ qbf];rcases rA hx hk with⟨e,h2⟩|e|e
   . obtain⟨y,hy⟩:=lR hM h2
     have et:fB x=[x.tr,x.ot]:=qp e
     have ea:jP ns x rs=nQ ns rs x.tr x.ot:=by
      unfold jP;rw[qnZ (by rw[e];decide +kernel),qp e]
     refine .ans (L:=BW) hT (.inr (.inl ⟨e,rfl⟩)) ⟨x.tr,x.ot,y,et,hy,ea⟩ ih
   . have ea:jP ns x rs=j6 ns.length rs:=by
      unfold jP;rw[qnZ (by rw[e];decide +kernel),qnZ (by rw[e];decide +kernel)]
     exact .ans (L:=uh) hT (.inr (.inr ⟨e,rfl⟩)) ea ih
   . have et:fB x=[x.tr]:=by
      unfold fB;rw[qnZ (by rw[e];decide +kernel),qnZ (by rw[e];decide +kernel)]
     have ea:jP ns x rs=pI rs ns x.tr:=qp e;exact .ans (L:=Ij) hT (.inl ⟨e,rfl⟩) ⟨x.tr,et,ea,Fz hM hB (by omega) _⟩ ih
  | true =>
   obtain⟨hD,hM',hB'⟩:=vq hx hM hk hB;have ih:=uq hN h8 r (cW ns x rs) (B+10 ^ 31) hok' hM' hB' (by omega) (by omega);show Runs xP ns (lZ x::r.map lZ) rs (if isD x=true then cW ns x rs::iy ns r (cW ns x rs)else _) (if isD x=true then mj ns r (cW ns x rs)else _);rw[hk,qp rfl,qp rfl];exact .deed hT hD hM' ih
theorem tD{ns:List Str}(hN:Names ns):∀(pls:List Pl)(k:Nat),(∀ x∈pls,PlOk ns x)->Paired BK (((pls.map bL).zipIdx k).map fun(x:Str×Nat)=>(x.2,x.1)) (pls.map lZ)
 |[],_,_=>.nil
 |x::r,k,h=>.cons (Ja hN (h x qms) k) (tD hN r (k+1) fun y hy=>h y (qmm _ hy))
theorem FJ{ns:List Str}(hN:Names ns)(h1:1<=ns.length){pls:List Pl}(hok:∀ x∈pls,PlOk ns x):pZ (nT ns pls)=(0,("names" ++ " "++Txt.join " " ns)):: (((pls.map bL).zipIdx 1).map fun(x:Str×Nat)=>(x.2,x.1)):=by
 have hnn:∀ n∈ns,isName n=true:=fun n hn=>lM (hN.nm n hn)
 have hne:ns≠[]:=fun z=>by rw[z]at h1;exact absurd h1 (by decide)
 unfold nT;rw[KJ (List.cons_ne_nil _ _) fun p hp=>?_]
 . rfl
 . rcases List.mem_cons.mp hp with rfl|hp
   . exact iJ names_free.2.1 names_free.2.2 (nU hne hnn)
   . obtain⟨x,hx,rfl⟩:=List.mem_map.mp hp
     exact vp hN (hok x hx)
theorem FN{ns:List Str}(hN:Names ns)(h1:1<=ns.length)(h8:ns.length<=8){pls:List Pl}(hok:∀ x∈pls,PlOk ns x)(h90:pls.length<=90):
  ∃(r0:Str) (rest:List (Nat×Str)),(nT ns pls).length <= gb/\pZ (nT ns pls)=(0,r0):: rest/\r0.length<=gb/\cI r0="names"/\fO (dq (bJ r0))=true/\dq (bJ r0)=ns/\rest.length<=300/\Paired BK rest (pls.map lZ)/\Runs xP ns (pls.map lZ) (cG ns) (iy ns pls (cG ns)) (mj ns pls (cG ns)):=by
 have hnn:∀ n∈ns,isName n=true:=fun n hn=>lM (hN.nm n hn)
 have hne:ns≠[]:=fun z=>by rw[z]at h1;exact absurd h1 (by decide)
 have hj:=nU hne hnn;obtain⟨f1,f2⟩:=iZ names_free.1 hj.hd';have hw:=words_of hne hnn;obtain⟨n1,n2⟩:=vh hN h8;have l5:("names":Str).length=5:=by decide +kernel
 have l1:(" ":Str).length=1:=by decide +kernel
 have lr:("names" ++ " "++Txt.join " " ns:Str).length <= 270:=by
  rw[Str.length_append,Str.length_append];omega
 have hlen:(nT ns pls).length <= gb:=by
  unfold nT;refine qnt (xK _ _) ?_
  have hs:=xM (ys:=("names" ++ " "++Txt.join " " ns):: pls.map bL) (m:=270) fun y hy=>by
   rcases List.mem_cons.mp hy with rfl|hy
   . exact lr
   . obtain⟨x,hx,rfl⟩:=List.mem_map.mp hy
     exact rz hN (hok x hx)
  have ln:("\n":Str).length=1:=by decide +kernel
  rw[List.length_cons,qlm]at hs ⊢;rw[ln];have:(pls.length+1) * 270<=91 * 270:=Nat.mul_le_mul_right _ (by omega);have hm:30000<=gb:=by decide
  omega
 refine⟨_,_,hlen,FJ hN h1 hok,qnt lr (by decide),f1,?_,?_,?_,tD hN pls 1 hok,?_⟩
 . rw[f2,hw]
   exact K5 hN h1 h8
 . rw[f2,hw]
 . rw[qlm,List.length_zipIdx,qlm]
   omega
 . refine uq hN h8 pls (cG ns) 0 hok (pJ ns) (fun z hz=>by rw[(List.mem_replicate.mp hz).2];decide) (Int.le_refl 0) ?_
   have:(pls.length:Int) * 10 ^ 31<=90 * 10 ^ 31:=Int.mul_le_mul_of_nonneg_right (by omega) (by decide);have e:(90:Int) * 10 ^ 31<=10 ^ 40:=by decide
   omega
inductive spDeeds(K:W.Frag)(vs:List V)(H:Hp)(Q:VK)(E:XK):Prop
 |mk (np a:Addr) (ns:List Str) (cs:List Int) (_:vs=[.ref np,.ref a]) (_:H np=some (.tup (ns.map V.str))) (_:1<=ns.length) (_:ns.length<=8) (_:Names ns) (_:SqL K H a (cs.map V.int)) (_:∀(l:Addr)(pls:List Pl)(H':Hp),Same H H'->H' l=some (.lst ((pls.map bL).map V.str))->(∀ x∈pls,PlOk ns x/\isD x=true)->pls.length<=3->Q (.ref l) H')
theorem vU{ns:List Str}(hN:Names ns){tr:Tr}(h:TrOk ns tr):TrO5 ns tr:=⟨qnt h.dp (by decide),qnt h.sz (by decide),h.nm,qnt (jw hN h) (by decide)⟩
theorem scDeeds:FnScope ["_law_names","_law_script","_law_rows","_law_k","_law_cell","_law_tree","_law_told","_law_verb"] ["_law_names","_law_script"] (aB Hd):=mkS
theorem Jb(T:Txt P w K mg t):FO P w K mg base 7 t.a107 t.d107 ["_law_names","_law_script"] (spDeeds K):=by
 have G91:=yK (base:=base) T;have G93:=wR (base:=base) T;have G95:=Bk (base:=base) T 4;have G97:=jJ (base:=base) T 4;have G99:=uf (base:=base) T 4;refine T.q107.F.ok2 (k:=6) scDeeds (fun cdv A outer s H vs Q E hr h=>?_);obtain⟨np,a,ns,cs,rfl,hnp,h1,h8,hN,hS,k⟩:=h;have nd:=scDeeds.nd
 refine ⟨_,(ao (psl 2 nd (bF aj))
   (ao (dU own1 rfl (gj T.zp (aa ak aj)) (pgl 3 nd)
    (ao (psl 4 nd (aQ G91 (hr.mo) T.q91.m T.q91.k T.q91.b aJ (aa (pvl 1) (aa (aG eU ak (pvl 3)) aj))))
    (ao (psl 5 nd (aQ G95 (hr.mo) T.q95.m T.q95.k T.q95.b aJ (aa (pvl 0) (aa (aQ G93 (hr.mo) T.q93.m T.q93.k T.q93.b aJ (aa (pvl 4) (aa (pvl 3) aj))) (aa ak aj)))))
    (ao (psl 6 nd (aQ G97 (hr.mo) T.q97.m T.q97.k T.q97.b aJ (aa (pvl 0) (aa (pvl 5) aj))))
    (aq (aV (PW.pt (jC (aH gn (pvl 6) ak (aN _)) (jf (aH gn (pvl 6) (aG dW (aG eV ak (aG eV ak (aZ aX T.zd Bt.len (aa (pvl 0) aj)))) ak) (aN _)))))
     (ao (psl 7 nd (aG bj az (dh fQ T.zr Bt.str (aa (aG eU ak (aG bU (pvl 4) (aG vY ak ak))) aj))))
     (ao (aV (aH aW (aG bU (pvl 4) ak) ak (aN _))
      (aq (psl 7 nd (aG bj az (dh fQ T.zr Bt.str (aa (aG dW (aG bU (pvl 4) (aG gQ ak (aG vY ak ak))) (aG vY ak ak)) aj)))))
      aP)
     (aq (bA (bW PySem.F.plainAttrs_list PySem.F.slot_list_append PySem.F.type_list_append cM (pvl 2) (aa (aG bj (aG bj (pvl 7) az) (aQ G99 (hr.mo) T.q99.m T.q99.k T.q99.b aJ (aa (pvl 5) aj))) aj))))))
     aP))))))
   (aq (aA (pvl 2))))),?_⟩
 have el:(ns.map V.str).length=ns.length:=qlm _;have c1:lU 1 (((ns.map V.str).length:Nat):Int):=⟨by omega,by rw[el];omega,by decide⟩
 have c2:lU 1 ((1:Int) * 2 ^ (((ns.map V.str).length:Nat):Int).toNat):=by
  rw[el,pw1];exact⟨(pwI h8).1,by have:=(pwI h8).2;omega,by decide⟩
 have ef:(1:Int) * 2 ^ ((1:Int) * 2 ^ (((ns.map V.str).length:Nat):Int).toNat).toNat - 1=((cz ns.length:Nat):Int):=by
  rw[el,pw1,pw2]
  rfl
 have sz:1000<=sizeLine:=by decide
 refine⟨lk (by first|exact qnb rfl|simp),fun l hl=>?_⟩;have s0:=aD (o:=.lst []) hl;refine⟨_,rfl,by decide,by decide,?_⟩
 refine Cp (lo:=0) (n:=3) (fun i σ H'=>∃(o3 o4 o5 o6 o7:Option V)(pls:List Pl),σ=[some (.ref np),some (.ref a),some (.ref l),o3,o4,o5,o6,o7]/\Same H H'/\H' l=some (.lst ((pls.map bL).map V.str))/\(∀ x∈pls,PlOk ns x/\isD x=true)/\pls.length<=i)
  ⟨none,none,none,none,none,[],rfl,s0,au,(fun x hx=>nomatch hx),qnr _⟩ ?_ ?_
 . rintro i σ H1 hi ⟨o3,o4,o5,o6,o7,pls,rfl,s1,hl1,hok,hpl⟩
   refine⟨_,rfl,_,rfl,_,_,rfl,rfl,a,cs,1+(0+(i:Int)),rfl,s1.seq hS,by omega,?_⟩
   try dsimp -proj -iota only
   generalize cs.getD (1+(0+(i:Int))).toNat 0=c;refine⟨_,rfl,_,rfl,_,rfl,c,0+(i:Int),rfl,by omega,by omega,fun m hm=>⟨np,ns,m,3,rfl,s1 _ _ hnp,h1,h8,by decide,by decide,fun vt tr H2 s2 ht hd hz hn=>?_⟩⟩;have s12:=s1.trans s2;refine⟨_,rfl,_,rfl,np,vt,ns,tr,rfl,s12 _ _ hnp,h8,ht,hd,hn,fun H3 s3=>?_⟩;have s13:=s12.trans s3;have hl3:=s3 _ _ (s2 _ _ hl1);have hT:TrOk ns tr:=⟨hd,by omega,hn⟩
   refine⟨_,rfl,rfl,_,rfl,aU (fun z0=>?_) (fun z0=>bz ?_)⟩
   . have z0 : aR ns tr≠0:=fun e=>by rw[e,qdt (show V.int ((0:Nat):Int)=V.int 0 from rfl)]at z0;cases z0
     refine⟨_,rfl,_,rfl,np,_,rfl,.inr (SqT.of (s13 _ _ hnp)),_,_,rfl,rfl,c1,_,_,rfl,rfl,c2,_,_,rfl,rfl,?_⟩
     try dsimp -proj -iota only
     rw[ef];refine⟨rfl,_,rfl,aU (fun z1=>?_) (fun z1=>?_)⟩
     . have z1:aR ns tr≠cz ns.length:=fun e=>by rw[e,qdt rfl]at z1;cases z1
       have cp:lU 10 29:=⟨by decide,by decide,by decide⟩
       have e29:(10:Int) ^ (29:Int).toNat=10 ^ 29:=rfl;have b0:=qen c (show(10:Int) ^ 29≠0 by decide);have b1:=qel c (show(0:Int)<10 ^ 29 by decide);have l5:("take ":Str).length=5:=by decide +kernel
       have l5':("lean ":Str).length=5:=by decide +kernel
       refine⟨_,rfl,_,_,rfl,rfl,cp,_,_,rfl,rfl,(by show(0:Int)<10 ^ (29:Int).toNat;decide),_,_,rfl,rfl,?_⟩
       try dsimp -proj -iota only
       rw[e29];have hn1 : -(10 ^ 30)<1+c % 10 ^ 29/\1+c % 10 ^ 29<10 ^ 30:=by omega
       refine⟨_,rfl,z8 hn1.1 hn1.2,_,_,rfl,rfl,?_,?_⟩
       . show("take ":Str).length+(eF (1+c % 10 ^ 29)).length <= sizeLine
         have:=nR hn1.1 hn1.2;omega
       apply Js (fun σ H'=>∃(kd:Str) (num:Int),σ=[some (.ref np),some (.ref a),some (.ref l),some (.int (0+(i:Int))),some (.int c),some vt,some (.int (aR ns tr:Nat)),some (.str (kd++" "++eF num))]/\H'=H3/\(kd="take"\/kd="lean")/\NbOk kd num)
       . intro g
         refine⟨_,rfl,_,_,rfl,rfl,(by show(0:Int)<3;decide),rfl,_,rfl,aU (fun _=>?w1) (fun _=>?w2)⟩
         case w2 =>
          show FQ _ _ _ _ _;apply g;exact⟨"take",1+c % 10 ^ 29,rfl,rfl,.inl rfl,.inr ⟨by decide +kernel,by omega,by omega⟩⟩
         case w1 =>
          have d0:=qen c (show(2:Int) * 10 ^ 29≠0 by decide);have d1:=qel c (show(0:Int)<2 * 10 ^ 29 by decide);have hn2 : -(10 ^ 30)<c % (2 * 10 ^ 29) - 10 ^ 29/\c % (2 * 10 ^ 29) - 10 ^ 29<10 ^ 30:=by omega
          refine⟨_,rfl,_,_,rfl,rfl,cp,_,_,rfl,rfl,.inl ⟨by decide,by decide⟩,_,_,rfl,rfl,(by show(0:Int)<2 * 10 ^ (29:Int).toNat;decide),_,_,rfl,rfl,cp,_,_,rfl,rfl,?_⟩
          try dsimp -proj -iota only
          rw[e29];refine⟨_,rfl,z8 hn2.1 hn2.2,_,_,rfl,rfl,?_,?_⟩
          . show("lean ":Str).length+(eF (c % (2 * 10 ^ 29) - 10 ^ 29)).length <= sizeLine
            have:=nR hn2.1 hn2.2;omega
          exact g _ _ ⟨"lean",c % (2 * 10 ^ 29) - 10 ^ 29,rfl,rfl,.inr rfl,.inl ⟨rfl,hn2.1,hn2.2⟩⟩
       . rintro σ H4 ⟨kd,num,rfl,e,hkd,hnb⟩
         have e:=e.symm;subst e
         have hx:PlOk ns ⟨kd,num,tr,tr⟩:=⟨hT,vU hN hT,by
          rcases hkd with e|e
          . exact .inl ⟨e,z0⟩
          . exact .inr (.inr (.inl ⟨e,z0,z1⟩)),hnb⟩
         have hxd:isD ⟨kd,num,tr,tr⟩=true:=qdt (by
          rcases hkd with e|e
          . exact .inl e
          . exact .inr (.inr e))
         have er:bL ⟨kd,num,tr,tr⟩=kd++" "++eF num++" "++wrT tr:=qp hkd;have hkl:kd.length<=6:=kd_len (lu hx.vb);have hnl:=nR hnb.rng.1 hnb.rng.2;have hwl:=jw hN hT;have l2:(" ":Str).length=1:=by decide +kernel
         refine⟨_,rfl,.inl ⟨rfl,_,SqL.of hl3⟩,_,rfl,_,_,rfl,rfl,?_,?_⟩
         . show(kd++" "++eF num:Str).length+(" ":Str).length <= sizeLine
           rw[Str.length_append,Str.length_append];omega
         refine⟨_,rfl,vt,tr,rfl,ht.mono s3.tups,hd,by decide,gf hN hn,fun H5 s5=>?_⟩;have hl5:=s5 _ _ hl3;refine⟨_,_,rfl,rfl,?_,l,_,_,rfl,rfl,hl5,dO (by rw[qlm,qlm];omega),?_⟩
         . show(kd++" "++eF num++" ":Str).length+(wrT tr).length <= sizeLine
           rw[Str.length_append,Str.length_append,Str.length_append];omega
         refine⟨_,_,_,_,_,pls++[⟨kd,num,tr,tr⟩],rfl,fun b o eb=>?_,?_,fun x hx'=>?_,by rw[List.length_append];exact Nat.succ_le_succ hpl⟩
         . rw[aF (aM eb hl)]
           exact s5 _ _ (s13 _ _ eb)
         . rw[au,List.map_append,List.map_append,<- er]
           rfl
         . rcases List.mem_append.mp hx' with hx'|hx'
           . exact hok x hx'
           . rw[List.mem_singleton.mp hx']
             exact⟨hx,hxd⟩
     . exact⟨_,_,_,_,_,pls,rfl,s13,hl3,hok,by omega⟩
   . exact⟨_,_,_,_,_,pls,rfl,s13,hl3,hok,by omega⟩
 . rintro σ H1 ⟨o3,o4,o5,o6,o7,pls,rfl,s1,hl1,hok,hpl⟩
   exact⟨_,rfl,k l pls H1 s1 hl1 hok hpl⟩
def QAt(H:Hp)(v:V)(x:Pl):Prop:=∃(q:Addr) (vt vo:V),v = .ref q/\H q=some (.tup [.str x.kd,vt,vo])/\TrAt H vt x.tr/\TrAt H vo x.ot/\(x.kd="lost"->x.num=((wrT x.tr).length:Int))
theorem QAt.tups{H H':Hp}(k:Tups H H'){v:V}{x:Pl}(h:QAt H v x):QAt H' v x:=by
 obtain⟨q,vt,vo,e,h1,h2,h3,h4⟩:=h;exact⟨q,vt,vo,e,k _ _ h1,h2.mono k,h3.mono k,h4⟩
inductive spQuest(vs:List V)(H:Hp)(Q:VK)(E:XK):Prop
 |mk (np:Addr) (ns:List Str) (c k:Int) (_:vs=[.ref np,.int c,.int k]) (_:H np=some (.tup (ns.map V.str))) (_:1<=ns.length) (_:ns.length<=8) (_:Names ns) (_:0<=k) (_:k<1000) (_:∀(v:V)(x:Pl)(H':Hp),Same H H'->QAt H' v x->PlOk ns x->isD x=false->Q v H')
theorem Ng{ns:List Str}(hN:Names ns){tr:Tr}(h:TrOk ns tr):1<=(wrT tr).length:=by
 obtain⟨c,e,_⟩:=(jt (gf hN h.nm)).hd;rw[jz];cases hq:(wrT tr).cps.toList with
 |nil=>rw[hq]at e;cases e
 |cons d r=>exact Nat.succ_le_succ (qnz _)
theorem Aa{ns:List Str}(hN:Names ns){tr:Tr}(h:TrOk ns tr):NbOk "lost" ((wrT tr).length:Int):=by
 have h1:=Ng hN h;have h2:=jw hN h;exact .inr ⟨by decide +kernel,by omega,by omega⟩
theorem Om{ns:List Str}(hN:Names ns){tr:Tr}(h:TrOk ns tr){nm:Str}(hm:nm∈ns):TrO5 ns (.bin .or tr (.nm nm)):=by
 have hl:=jw hN h;have hn:nm.length<=8:=by rw[jz];exact(hN.nm nm hm).le
 have l1:("(":Str).length=1:=by decide +kernel
 have l2:(" ":Str).length=1:=by decide +kernel
 have l3:(")":Str).length=1:=by decide +kernel
 have l4:(opG .or).length=1:=by decide +kernel
 refine⟨?_,?_,fun x hx=>?_,?_⟩
 . have:=h.dp
   show max tr.depth 1+1<=5;omega
 . have:=h.sz
   show tr.size+1+1<=200;omega
 . rcases List.mem_append.mp (show x∈tr.names++[nm]from hx)with hx|hx
   . exact h.nm x hx
   . rw[List.mem_singleton.mp hx];exact hm
 . show("("++wrT tr++" "++opG .or++" "++nm++")":Str).length <= 150
   rw[Str.length_append,Str.length_append,Str.length_append,Str.length_append,Str.length_append,Str.length_append];omega
theorem scQuest:FnScope ["_law_names","_law_cell","_law_k","_law_m","_law_one","_law_two"] ["_law_names","_law_cell","_law_k"] (aB Hf):=mkS
theorem Jc(T:Txt P w K mg t):FO P w K mg base 7 t.a108 t.d108 ["_law_names","_law_cell","_law_k"] spQuest:=by
 have G93:=wR (base:=base) T;have G95:=Bk (base:=base) T 4;have G97:=jJ (base:=base) T 4;refine T.q108.F.ok2 (k:=6) scQuest (fun cdv A outer s H vs Q E hr h=>?_);obtain⟨np,ns,c,kk,rfl,hnp,h1,h8,hN,hk0,hk1,k⟩:=h;have nd:=scQuest.nd
 refine⟨_,(ao (psl 3 nd (aQ G93 (hr.mo) T.q93.m T.q93.k T.q93.b aJ (aa (pvl 1) (aa (aG eU (pvl 2) ak) aj))))
   (ao (psl 4 nd (aQ G95 (hr.mo) T.q95.m T.q95.k T.q95.b aJ (aa (pvl 0) (aa (aQ G93 (hr.mo) T.q93.m T.q93.k T.q93.b aJ (aa (pvl 1) (aa (aG eU (pvl 2) ak) aj))) (aa ak aj)))))
   (ao (psl 5 nd (aQ G95 (hr.mo) T.q95.m T.q95.k T.q95.b aJ (aa (pvl 0) (aa (aQ G93 (hr.mo) T.q93.m T.q93.k T.q93.b aJ (aa (pvl 1) (aa (aG eU (pvl 2) ak) aj))) (aa ak aj)))))
   (ao (aV (aH aW (aG bU (pvl 3) ak) ak (aN _))
    (aq (aA (bw (aa az (aa (pvl 4) (aa (pvl 5) aj))))))
    aP)
   (ao (aV (PW.pt (gm (aH lB (aG bU (pvl 3) ak) ak (aN _)) (gP (aH aW (aQ G97 (hr.mo) T.q97.m T.q97.k T.q97.b aJ (aa (pvl 0) (aa (pvl 4) aj))) (aG dW (aG eV ak (aG eV ak (aZ aX T.zd Bt.len (aa (pvl 0) aj)))) ak) (aN _)))))
    (aq (aA (bw (aa az (aa (pvl 4) (aa (pvl 5) aj))))))
    aP)
   (ao (aV (aH aW (aG bU (pvl 3) ak) ak (aN _))
    (aq (aA (bw (aa az (aa (pvl 4) (aa (bw (aa az (aa (pvl 4) (aa (bw (aa az (aa (pix aK (pvl 0) (aG bU (aG iz (pvl 3) ak) (aZ aX T.zd Bt.len (aa (pvl 0) aj)))) aj))) aj)))) aj))))))
    aP)
   (aq (aA (bw (aa az (aa (pvl 4) (aa (pvl 5) aj)))))))))))),?_⟩
 have el:(ns.map V.str).length=ns.length:=qlm _;have c1:lU 1 (((ns.map V.str).length:Nat):Int):=⟨by omega,by rw[el];omega,by decide⟩
 have c2:lU 1 ((1:Int) * 2 ^ (((ns.map V.str).length:Nat):Int).toNat):=by
  rw[el,pw1];exact⟨(pwI h8).1,by have:=(pwI h8).2;omega,by decide⟩
 have ef:(1:Int) * 2 ^ ((1:Int) * 2 ^ (((ns.map V.str).length:Nat):Int).toNat).toNat - 1=((cz ns.length:Nat):Int):=by
  rw[el,pw1,pw2]
  rfl
 refine⟨_,rfl,_,rfl,_,_,rfl,rfl,c,kk+11,rfl,by omega,by omega,fun m hm=>?_⟩;refine⟨_,rfl,_,rfl,_,rfl,_,_,rfl,rfl,c,kk+40,rfl,by omega,by omega,fun m1 hm1=>⟨np,ns,m1,3,rfl,hnp,h1,h8,by decide,by decide,fun v1 t1 H1 s1 ht1 hd1 hz1 hn1=>?_⟩⟩;refine⟨_,rfl,_,rfl,_,rfl,_,_,rfl,rfl,c,kk+80,rfl,by omega,by omega,fun m2 hm2=>⟨np,ns,m2,3,rfl,s1 _ _ hnp,h1,h8,by decide,by decide,fun v2 t2 H2 s2 ht2 hd2 hz2 hn2=>?_⟩⟩;have s12:=s1.trans s2;have T1:TrOk ns t1:=⟨hd1,by omega,hn1⟩
 have T2:TrOk ns t2:=⟨hd2,by omega,hn2⟩
 have ht1':=ht1.mono s2.tups
 have one:∀{H3:Hp},Same H2 H3->∀ q,H3 q=none->Q (.ref q) (upd H3 q (.tup [.str "ask",v1,v2])):=fun {H3} s3 q hq=>by
  have s4:=aD (o:=.tup [.str "ask",v1,v2]) hq;have s34:=s3.trans s4;exact k _ ⟨"ask",1,t1,t2⟩ _ (s12.trans s34) ⟨q,v1,v2,rfl,au,ht1'.mono s34.tups,ht2.mono s34.tups,fun e=>absurd e (by show ¬ ("ask":Str)="lost";decide +kernel)⟩ ⟨T1,vU hN T2,.inr (.inr (.inr (.inr (.inr rfl)))),.inr ⟨by show ¬ ("ask":Str)="lean";decide +kernel,(by show(0:Int)<1;decide),(by show(1:Int)<10 ^ 30;decide)⟩⟩ (qdf (by show ¬ (("ask":Str)="take"\/("ask":Str)="give"\/("ask":Str)="lean");decide +kernel))
 refine⟨_,rfl,_,_,rfl,rfl,(by show(0:Int)<5;decide),rfl,_,rfl,aU (fun _=>?_) (fun _=>?_)⟩
 . refine⟨_,rfl,_,rfl,lk (by first|exact qnb rfl|simp),fun q hq=>?_⟩
   have s3:=aD (o:=.tup [.str "worlds",v1,v2]) hq;exact k _ ⟨"worlds",1,t1,t2⟩ _ (s12.trans s3) ⟨q,v1,v2,rfl,au,ht1'.mono s3.tups,ht2.mono s3.tups,fun e=>absurd e (by show ¬ ("worlds":Str)="lost";decide +kernel)⟩ ⟨T1,vU hN T2,.inr (.inr (.inr (.inr (.inl rfl)))),.inr ⟨by show ¬ ("worlds":Str)="lean";decide +kernel,(by show(0:Int)<1;decide),(by show(1:Int)<10 ^ 30;decide)⟩⟩ (qdf (by show ¬ (("worlds":Str)="take"\/("worlds":Str)="give"\/("worlds":Str)="lean");decide +kernel))
 refine⟨_,rfl,_,_,rfl,rfl,(by show(0:Int)<5;decide),_,_,rfl,rfl,_,rfl,aU (fun _=>bT ?_) (fun _=>?_)⟩
 . exact⟨_,rfl,_,rfl,lk (by first|exact qnb rfl|simp),fun q hq=>one (Same.refl _) q hq⟩
 refine⟨_,rfl,_,rfl,np,v1,ns,t1,rfl,s12 _ _ hnp,h8,ht1',hd1,hn1,fun H3 s3=>?_⟩;have s13:=s12.trans s3;refine⟨_,rfl,np,_,rfl,.inr (SqT.of (s13 _ _ hnp)),_,_,rfl,rfl,c1,_,_,rfl,rfl,c2,_,_,rfl,rfl,?_⟩
 try dsimp -proj -iota only
 rw[ef];refine⟨rfl,_,rfl,aU (fun z1=>?_) (fun z1=>?_)⟩
 . exact⟨_,rfl,_,rfl,lk (by first|exact qnb rfl|simp),fun q hq=>one s3 q hq⟩
 have z1:aR ns t1≠cz ns.length:=fun e=>z1 (qdt (by rw[e]))
 have ht13:=ht1'.mono s3.tups;have ht23:=ht2.mono s3.tups;have nd':isD ⟨"lost",((wrT t1).length:Int),t1,t2⟩=false:=qdf (by show ¬ (("lost":Str)="take"\/("lost":Str)="give"\/("lost":Str)="lean");decide +kernel);refine⟨_,rfl,_,_,rfl,rfl,(by show(0:Int)<5;decide),rfl,_,rfl,aU (fun _=>?_) (fun _=>?_)⟩
 . have hL0:(0:Int)<((ns.map V.str).length:Nat):=by rw[el];omega
   have a0:=qen (m / 5) (show(((ns.map V.str).length:Nat):Int)≠0 by omega);have a1:=qel (m / 5) hL0;obtain⟨j,hj⟩:∃ j:Nat,m / 5 % (((ns.map V.str).length:Nat):Int)=(j:Int):=⟨(m / 5 % (((ns.map V.str).length:Nat):Int)).toNat,by omega⟩
   have hjl:j<ns.length:=by rw[hj,el]at a1;omega
   have hnj:ns[j]∈ns:=List.getElem_mem hjl;refine⟨_,rfl,_,rfl,_,rfl,_,rfl,_,_,rfl,rfl,⟨by decide,by decide⟩,_,rfl,np,_,rfl,.inr (SqT.of (s13 _ _ hnp)),_,_,rfl,rfl,hL0,np,_,_,.str ns[j],rfl,rfl,SqT.of (s13 _ _ hnp),?_,lk (by first|exact qnb rfl|simp),fun q1 hq1=>⟨lk (by first|exact qnb rfl|simp),fun q2 hq2=>⟨lk (by first|exact qnb rfl|simp),fun q3 hq3=>?_⟩⟩⟩
   . show atI (ns.map V.str) (m / 5 % (((ns.map V.str).length:Nat):Int))=_
     rw[hj];exact b8 (by rw[qgm,List.getElem?_eq_getElem hjl];rfl)
   have u1:=aD (o:=.tup [.str "name",.str ns[j]]) hq1;have u2:=aD (o:=.tup [.str "or",v1,.ref q1]) hq2;have u3:=aD (o:=.tup [.str "lost",v1,.ref q2]) hq3;have u123:=(u1.trans u2).trans u3;refine k _ ⟨"lost",((wrT t1).length:Int),t1,.bin .or t1 (.nm ns[j])⟩ _ (s13.trans u123) ⟨q3,v1,.ref q2,rfl,au,ht13.mono u123.tups,.bin (o:=.or) (u3 _ _ au) (ht13.mono u123.tups) (.nm (u3 _ _ (u2 _ _ au))),fun _=>rfl⟩ ⟨T1,Om hN T1 hnj,.inr (.inr (.inr (.inl ⟨rfl,z1⟩))),Aa hN T1⟩ nd'
 . refine⟨_,rfl,_,rfl,lk (by first|exact qnb rfl|simp),fun q hq=>?_⟩
   have s4:=aD (o:=.tup [.str "lost",v1,v2]) hq;exact k _ ⟨"lost",((wrT t1).length:Int),t1,t2⟩ _ (s13.trans s4) ⟨q,v1,v2,rfl,au,ht13.mono s4.tups,ht23.mono s4.tups,fun _=>rfl⟩ ⟨T1,vU hN T2,.inr (.inr (.inr (.inl ⟨rfl,z1⟩))),Aa hN T1⟩ nd'
inductive spQRow(vs:List V)(H:Hp)(Q:VK)(E:XK):Prop
 |mk (v:V) (x:Pl) (ns:List Str) (_:vs=[v]) (_:QAt H v x) (_:PlOk ns x) (_:Names ns) (_:isD x=false) (_:∀ H',Same H H'->Q (.str (bL x)) H')
theorem scQRow:FnScope ["_law_question_here","_law_one"] ["_law_question_here"] (aB Hg):=mkS
theorem K6(T:Txt P w K mg t):FO P w K mg base 7 t.a109 t.d109 ["_law_question_here"] spQRow:=by
 have G99:=uf (base:=base) T 5;refine T.q109.F.ok2 (k:=6) scQRow (fun cdv A outer s H vs Q E hr h=>?_);obtain⟨v,⟨kd,num,tr,ot⟩,ns,rfl,⟨q,vt,vo,rfl,hq,ht,hto,hnum⟩,hok,hN,hnd,k⟩:=h;have nd:=scQRow.nd
 refine⟨_,(ao (aV (aH aW (pix aK (pvl 0) ak) az (aN _))
    (aq (aA az))
    aP)
   (ao (aV (aH aW (pix aK (pvl 0) ak) az (aN _))
    (aq (aA (aG bj az (aQ G99 (hr.mo) T.q99.m T.q99.k T.q99.b aJ (aa (pix aK (pvl 0) ak) aj)))))
    aP)
   (ao (psl 1 nd (aQ G99 (hr.mo) T.q99.m T.q99.k T.q99.b aJ (aa (pix aK (pvl 0) ak) aj)))
   (aq (aA (aG bj (aG bj (aG bj az (pvl 1)) (pix cg (bF (aa az (aa az (aa az (aa az aj))))) (aG bU (aZ iR T.zd Bt.len (aa (pvl 1) aj)) ak))) (aQ G99 (hr.mo) T.q99.m T.q99.k T.q99.b aJ (aa (pix aK (pvl 0) ak) aj)))))))),?_⟩
 have hq:H q=some (.tup [.str kd,vt,vo]):=hq;have ht:TrAt H vt tr:=ht;have hto:TrAt H vo ot:=hto;have hno:=gf hN hok.tr.nm;have hnoo:=gf hN hok.ot.nm;have hwl:=jw hN hok.tr;have hwo:=hok.ot.ln;have hwl:(wrT tr).length <= 99:=hwl;have hwo:(wrT ot).length <= 150:=hwo;have sz:1000<=sizeLine:=by decide
 rcases rA hok hnd with⟨e,h2⟩|e|e
 . have e:kd="lost":=e
   subst e;have hnum:num=((wrT tr).length:Int):=hnum rfl;subst hnum
   have er:bL ⟨"lost",((wrT tr).length:Int),tr,ot⟩ = "lost "++wrT tr++ju (((wrT tr).length:Int) % 4)++wrT ot:=by
    unfold bL;rw[qnZ (by show ¬ (("lost":Str)="take"\/("lost":Str)="lean");decide +kernel),qp rfl]
   rw[er]at k;have a0:=qen ((wrT tr).length:Int) (show(4:Int)≠0 by decide);have a1:=qel ((wrT tr).length:Int) (show(0:Int)<4 by decide);have hcl:=z7 (((wrT tr).length:Int) % 4);have l5:("lost ":Str).length=5:=by decide +kernel
   refine⟨_,rfl,q,_,0,_,rfl,rfl,SqT.of hq,rfl,rfl,_,rfl,aU (fun z=>absurd (V.str.inj (qod z)) (by show ¬ ("lost":Str)="worlds";decide +kernel)) (fun _=>?_)⟩;refine⟨_,rfl,q,_,0,_,rfl,rfl,SqT.of hq,rfl,rfl,_,rfl,aU (fun z=>absurd (V.str.inj (qod z)) (by show ¬ ("lost":Str)="ask";decide +kernel)) (fun _=>?_)⟩;refine⟨_,rfl,q,_,1,vt,rfl,rfl,SqT.of hq,rfl,vt,tr,rfl,ht,qnt hok.tr.dp (by decide),by decide,hno,fun H1 s1=>?_⟩;refine⟨_,rfl,_,_,rfl,rfl,by omega,lk (by first|exact qnb rfl|simp),fun lc hlc=>?_⟩;have s2:=aD (o:=.lst [.str " : ",.str ":",.str ": ",.str " :"]) hlc;have s12:=s1.trans s2;refine⟨_,rfl,_,rfl,by omega,_,_,rfl,rfl,(by show(0:Int)<4;decide),lc,_,_,.str (ju (((wrT tr).length:Int) % 4)),rfl,rfl,SqL.of au,M9 a0 a1,?_⟩;generalize upd H1 lc (.lst [.str " : ",.str ":",.str ": ",.str " :"])=H2 at s2 s12 ⊢;refine⟨_,_,rfl,rfl,by rw[Str.length_append];omega,?_⟩;refine⟨_,rfl,q,_,2,vo,rfl,rfl,SqT.of (s12 _ _ hq),rfl,vo,ot,rfl,hto.mono s12.tups,hok.ot.dp,by decide,hnoo,fun H3 s3=>?_⟩;exact⟨_,_,rfl,rfl,by rw[Str.length_append,Str.length_append];omega,k H3 (s12.trans s3)⟩
 . have e:kd="worlds":=e
   subst e
   have er:bL ⟨"worlds",num,tr,ot⟩ = "worlds":=by
    unfold bL;rw[qnZ (by show ¬ (("worlds":Str)="take"\/("worlds":Str)="lean");decide +kernel),qnZ (by show ¬ ("worlds":Str)="lost";decide +kernel),qp rfl]
   rw[er]at k;refine⟨_,rfl,q,_,0,_,rfl,rfl,SqT.of hq,rfl,rfl,_,rfl,aU (fun _=>?_) (fun z=>absurd (qdt rfl) z)⟩;exact k H (Same.refl _)
 . have e:kd="ask":=e
   subst e
   have er:bL ⟨"ask",num,tr,ot⟩ = "ask "++wrT tr:=by
    unfold bL;rw[qnZ (by show ¬ (("ask":Str)="take"\/("ask":Str)="lean");decide +kernel),qnZ (by show ¬ ("ask":Str)="lost";decide +kernel),qnZ (by show ¬ ("ask":Str)="worlds";decide +kernel),show("ask ":Str)="ask" ++ " " by decide +kernel]
   rw[er]at k;have l4:("ask ":Str).length=4:=by decide +kernel
   refine⟨_,rfl,q,_,0,_,rfl,rfl,SqT.of hq,rfl,rfl,_,rfl,aU (fun z=>absurd (V.str.inj (qod z)) (by show ¬ ("ask":Str)="worlds";decide +kernel)) (fun _=>?_)⟩;refine⟨_,rfl,q,_,0,_,rfl,rfl,SqT.of hq,rfl,rfl,_,rfl,aU (fun _=>?_) (fun z=>absurd (qdt rfl) z)⟩;refine⟨_,rfl,q,_,1,vt,rfl,rfl,SqT.of hq,rfl,vt,tr,rfl,ht,qnt hok.tr.dp (by decide),by decide,hno,fun H1 s1=>?_⟩;exact⟨_,_,rfl,rfl,by omega,k H1 s1⟩
inductive spLaw(K:W.Frag)(vs:List V)(H:Hp)(Q:VK)(E:XK):Prop
 |mk (a:Addr) (ns:List Int) (_:vs=[.ref a]) (_:SqL K H a (ns.map V.int)) (_:ns.length<=63) (_:∀ H',Q (.bl true) H')
inductive spRunFits(vs:List V)(H:Hp)(Q:VK)(E:XK):Prop
 |mk (q al ml:Addr) (xs:List Str) (ms:List V) (a d:Int) (_:vs=[.ref q,.int a,.int d]) (_:H q=some (.tup [.ref al,.ref ml])) (_:H al=some (.lst (xs.map V.str))) (_:H ml=some (.lst ms)) (_:a=(xs.length:Int)) (_:d=(ms.length:Int)) (_:Q (.bl true) H)
def tE(ns:List Str)(D:List Pl)(rs:List Int):List Int:=D.foldl (fun r x=>cW ns x r) rs
theorem rB(ns:List Str):∀(D Qs:List Pl)(rs:List Int),(∀ x∈D,isD x=true)->(∀ x∈Qs,isD x=false)->mj ns (D++Qs) rs=Qs.map fun x=>jP ns x (tE ns D rs)
 |[],[],rs,_,_=>rfl
 | [],x::r,rs,hD,hQ=>by
  show(if isD x=true then _ else jP ns x rs::mj ns r rs)=_;rw[hQ x qms,qnZ qbf];have:=rB ns [] r rs hD fun y hy=>hQ y (qmm _ hy)
  rw[List.nil_append]at this;rw[this]
  rfl
 | x::D,Qs,rs,hD,hQ=>by
  show(if isD x=true then mj ns (D++Qs) (cW ns x rs)else _)=_;rw[hD x qms,qp rfl,rB ns D Qs (cW ns x rs) (fun y hy=>hD y (qmm _ hy)) hQ]
  rfl
theorem rC(ns:List Str):∀(D Qs:List Pl)(rs:List Int),(∀ x∈D,isD x=true)->(∀ x∈Qs,isD x=false)->(iy ns (D++Qs) rs).length=D.length/\(D=[]\/∃ ms,iy ns (D++Qs) rs=ms++[tE ns D rs])
 |[],[],rs,_,_=>⟨rfl,.inl rfl⟩
 | [],x::r,rs,hD,hQ=>by
  refine⟨?_,.inl rfl⟩;show(if isD x=true then _ else iy ns r rs).length=0;rw[hQ x qms,qnZ qbf];exact(rC ns [] r rs hD fun y hy=>hQ y (qmm _ hy)).1
 | x::D,Qs,rs,hD,hQ=>by
  obtain⟨h1,h2⟩:=rC ns D Qs (cW ns x rs) (fun y hy=>hD y (qmm _ hy)) hQ
  have e:iy ns (x::D++Qs) rs=cW ns x rs::iy ns (D++Qs) (cW ns x rs):=by
   show(if isD x=true then cW ns x rs::iy ns (D++Qs) (cW ns x rs)else _)=_;rw[hD x qms,qp rfl]
  rw[e];refine⟨congrArg (· + 1) h1,.inr ?_⟩;rcases h2 with rfl|⟨ms,h2⟩
  . refine⟨[],?_⟩
    have:iy ns ([]++Qs) (cW ns x rs)=[]:=List.length_eq_zero_iff.mp h1;rw[this]
    rfl
  . exact⟨cW ns x rs::ms,by rw[h2];rfl⟩
theorem Ab{ns:List Str}:∀(D:List Pl)(rs:List Int)(B:Int),(∀ x∈D,PlOk ns x/\isD x=true)->Mind ns rs->Bnd B rs->Mind ns (tE ns D rs)/\Bnd (B+(D.length:Int) * 10 ^ 31) (tE ns D rs)
 |[],rs,B,_,hM,hB=>⟨hM,hB.more (by show B<=B+(0:Int) * 10 ^ 31;omega)⟩
 | x::D,rs,B,h,hM,hB=>by
  obtain⟨hx,hd⟩:=h x qms;obtain⟨_,hM',hB'⟩:=vq hx hM hd hB;obtain⟨q1,q2⟩:=Ab D (cW ns x rs) (B+10 ^ 31) (fun y hy=>h y (qmm _ hy)) hM' hB';refine⟨q1,q2.more ?_⟩;rw[List.length_cons,Int.natCast_add,Int.add_mul];show B+10 ^ 31+(D.length:Int) * 10 ^ 31<=B+((D.length:Int) * 10 ^ 31+(1:Int) * 10 ^ 31);omega
inductive spAnsF(vs:List V)(H:Hp)(Q:VK)(E:XK):Prop
 |mk (a p r:Addr) (v:V) (ns:List Str) (rs:List Int) (x:Pl) (B:Int) (_:vs=[.ref a,v,.str (jP ns x rs)]) (_:MindAt H a p r rs) (_:H p=some (.tup (ns.map V.str))) (_:ns.length<=8) (_:Mind ns rs) (_:Bnd B rs) (_:B<=10 ^ 40) (_:QAt H v x) (_:PlOk ns x) (_:isD x=false) (_:∀ H',Same H H'->Q (.bl true) H')
theorem scRunFits:FnScope ["_law_found","_law_answers","_law_deeds","_law_line"] ["_law_found","_law_answers","_law_deeds"] (aB GP):=mkS
theorem Cd(T:Txt P w K mg t):FO P w K mg base 1 t.a101 t.d101 ["_law_found","_law_answers","_law_deeds"] spRunFits:=by
 refine T.q101.F.ok2 scRunFits (fun cdv A outer s H vs Q E hr h=>?_);obtain⟨q,al,ml,xs,ms,a,d,rfl,hq,hal,hml,ea,ed,k⟩:=h;have nd:=scRunFits.nd
 refine ⟨_,(ao (aV (PW.pt (gm (cQ (bZ (aZ fW T.zq Bt.isinstance (aa (pvl 0) (aa (jR (v:=.ty "tuple") T.zn Bt.tuple rfl) aj))))) (gm (aH gn (aZ aX T.zd Bt.len (aa (pvl 0) aj)) ak (aN _)) (gm (cQ (bZ (aZ fW T.zq Bt.isinstance (aa (pix aK (pvl 0) ak) (aa (jR (v:=.ty "list") T.zM Bt.list rfl) aj))))) (gP (aH gn (aZ aX T.zd Bt.len (aa (pix aK (pvl 0) ak) aj)) (pvl 1) (aN _)))))))
    (aq (aA eQ))
    aP)
   (ao (dU own1 rfl (cZ (pix aK (pvl 0) ak)) (pgl 3 nd)
    (aq (aV (cQ (bZ (aZ fW T.zq Bt.isinstance (aa (pvl 3) (aa (jR (v:=.ty "str") T.zr Bt.str rfl) aj)))))
     (aq (aA eQ))
     aP)))
   (aq (aA (ou (aZ fW T.zq Bt.isinstance (aa (pix aK (pvl 0) ak) (aa (jR (v:=.ty "list") T.zM Bt.list rfl) aj))) (my (cF aW (aZ aX T.zd Bt.len (aa (pix aK (pvl 0) ak) aj)) (pvl 2) (aN _)))))))),?_⟩
 refine⟨_,rfl,_,_,_,_,true,rfl,rfl,.tup hq,rfl,_,rfl,bz ?_⟩;refine⟨_,rfl,q,_,rfl,.inr (SqT.of hq),rfl,_,rfl,aU (fun c=>absurd c (by rw[qdt (show V.int (([V.ref al,V.ref ml].length:Nat):Int)=V.int 2 from rfl)];decide)) (fun _=>?_)⟩;refine⟨_,rfl,q,_,0,_,rfl,rfl,SqT.of hq,rfl,_,_,_,_,true,rfl,rfl,.lst hal,rfl,_,rfl,bz ?_⟩;refine⟨_,rfl,q,_,0,_,rfl,rfl,SqT.of hq,rfl,al,_,rfl,.inl (SqL.of hal),_,rfl,rfl,_,rfl,aU (fun c=>absurd c (by rw[qdt (show V.int (((xs.map V.str).length:Nat):Int)=V.int a by rw[qlm,ea])];decide)) (fun _=>?_)⟩;refine⟨_,rfl,q,_,0,_,rfl,rfl,SqT.of hq,rfl,al,rfl,⟨_,SqL.of hal⟩,gw (K:=K) (a:=al) (xs:=xs.map V.str) (fun i σ H'=>∃ o:Option V,σ=[some (.ref q),some (.int a),some (.int d),o]/\H'=H) ⟨none,rfl,rfl⟩ (fun i σ H' _ ⟨_,_,e⟩=>by subst e;exact SqL.of hal) ?_ ?_⟩
 . rintro i y σ H' hi ⟨o,rfl,e⟩
   have e:=e.symm;subst e;rw[qgm]at hi
   obtain⟨c,hc,rfl⟩:∃ c,xs[i]? = some c/\y=V.str c:=by
    cases q:xs[i]? with
    |none=>rw[q]at hi;cases hi
    |some c=>rw[q]at hi;exact⟨c,rfl,(qsi hi).symm⟩
   refine⟨_,rfl,_,_,_,_,true,rfl,rfl,.str _,rfl,_,rfl,bz ?_⟩;exact⟨_,rfl,rfl⟩
 . rintro σ H' ⟨o,rfl,e⟩
   have e:=e.symm;subst e;refine⟨_,rfl,q,_,1,_,rfl,rfl,SqT.of hq,rfl,_,_,_,_,true,rfl,rfl,.lst hml,rfl,_,rfl,?_⟩;rw[qp rfl];refine⟨_,rfl,q,_,1,_,rfl,rfl,SqT.of hq,rfl,ml,_,rfl,.inl (SqL.of hml),_,rfl,rfl,?_⟩
   try dsimp -proj -iota only
   rw[qdt (show V.int ((ms.length:Nat):Int)=V.int d by rw[ed])];exact k
theorem scAnsF:FnScope ["_law_mind","_law_question_here","_law_answer"] ["_law_mind","_law_question_here","_law_answer"] (aB Hh):=mkS
theorem K7(T:Txt P w K mg t):FO P w K mg base 9 t.a110 t.d110 ["_law_mind","_law_question_here","_law_answer"] spAnsF:=by
 have G104:=M7 (base:=base) T;have G105:=K4 (base:=base) T;have G106:=IW (base:=base) T;refine T.q110.F.ok2 (k:=8) scAnsF (fun cdv A outer s H vs Q E hr h=>?_);obtain⟨a,p,r,v,ns,rs,⟨kd,num,tr,ot⟩,B,rfl,hm,hp,h8,hM,hB,hB2,⟨q,vt,vo,rfl,hq,ht,hto,_⟩,hok,hnd,k⟩:=h;have nd:=scAnsF.nd
 refine⟨_,(ao (aV (aH aW (pix aK (pvl 1) ak) az (aN _))
    (aq (aA (cF aW (pvl 2) (aQ G104 (hr.mo) T.q104.m T.q104.k T.q104.b aJ (aa (pvl 0) aj)) (aN _))))
    aP)
   (ao (aV (aH aW (pix aK (pvl 1) ak) az (aN _))
    (aq (aA (aQ G105 (hr.mo) T.q105.m T.q105.k T.q105.b aJ (aa (pvl 0) (aa (pix aK (pvl 1) ak) (aa (pvl 2) aj))))))
    aP)
   (aq (aA (aQ G106 (hr.mo) T.q106.m T.q106.k T.q106.b aJ (aa (pvl 0) (aa (pix aK (pvl 1) ak) (aa (pix aK (pvl 1) ak) (aa (pvl 2) aj))))))))),?_⟩
 have hq:H q=some (.tup [.str kd,vt,vo]):=hq;rcases rA hok hnd with⟨e,h2⟩|e|e
 . have e:kd="lost":=e
   subst e;obtain⟨x,hx⟩:=lR hM h2;refine⟨_,rfl,q,_,0,_,rfl,rfl,SqT.of hq,rfl,rfl,_,rfl,aU (fun z=>absurd (V.str.inj (qod z)) (by decide +kernel)) (fun _=>?_)⟩;refine⟨_,rfl,q,_,0,_,rfl,rfl,SqT.of hq,rfl,rfl,_,rfl,aU (fun z=>absurd (V.str.inj (qod z)) (by decide +kernel)) (fun _=>?_)⟩;exact⟨_,rfl,_,rfl,q,_,1,vt,rfl,rfl,SqT.of hq,rfl,_,rfl,q,_,2,vo,rfl,rfl,SqT.of hq,rfl,_,rfl,a,p,r,vt,vo,ns,rs,tr,ot,x,rfl,hm,hM,hp,h8,ht,hto,qnt hok.tr.dp (by decide),hok.ot.dp,hok.tr.nm,hok.ot.nm,hx,k⟩
 . have e:kd="worlds":=e
   subst e;refine⟨_,rfl,q,_,0,_,rfl,rfl,SqT.of hq,rfl,rfl,_,rfl,aU (fun _=>?_) (fun z=>absurd (qdt rfl) z)⟩;refine⟨_,rfl,_,rfl,a,p,r,ns,rs,rfl,hm,hp,h8,fun H1 s1=>⟨rfl,?_⟩⟩
   try dsimp -proj -iota only
   rw[iK _ (show jP ns ⟨"worlds",num,tr,ot⟩ rs=j6 ns.length rs from rfl)];exact k _ s1
 . have e:kd="ask":=e
   subst e;refine⟨_,rfl,q,_,0,_,rfl,rfl,SqT.of hq,rfl,rfl,_,rfl,aU (fun z=>absurd (V.str.inj (qod z)) (by decide +kernel)) (fun _=>?_)⟩;refine⟨_,rfl,q,_,0,_,rfl,rfl,SqT.of hq,rfl,rfl,_,rfl,aU (fun _=>?_) (fun z=>absurd (qdt rfl) z)⟩;exact⟨_,rfl,_,rfl,q,_,1,vt,rfl,rfl,SqT.of hq,rfl,_,rfl,a,p,r,vt,ns,rs,tr,rfl,hm,hM,hp,h8,ht,qnt hok.tr.dp (by decide),hok.tr.nm,Fz hM hB hB2 tr,k⟩
theorem Jd(ns:List Int)(lo hi:Option Int):∃ cs:List Int,ig (ns.map V.int) lo hi=cs.map V.int/\cs.length<=ns.length:=by
 refine⟨(ns.drop (HT.sIx (ns.map V.int).length 0 lo)).take (HT.sIx (ns.map V.int).length (ns.map V.int).length hi - HT.sIx (ns.map V.int).length 0 lo),?_,?_⟩
 . unfold ig
   rw[List.map_take,List.map_drop]
 . rw[List.length_take,List.length_drop]
   omega
theorem Nh(T:Txt P w K mg t):vR P w K mg base t xP:=fun kd L h=>by
 rcases h with⟨rfl,rfl⟩|⟨rfl,rfl⟩|⟨rfl,rfl⟩
 . exact⟨by decide +kernel,by decide +kernel,by decide +kernel,t.a83,t.d83,by kernel_rfl,KD T,T.q83.k,T.q83.b⟩
 . exact⟨by decide +kernel,by decide +kernel,by decide +kernel,t.a84,t.d84,by kernel_rfl,BX T,T.q84.k,T.q84.b⟩
 . exact⟨by decide +kernel,by decide +kernel,by decide +kernel,t.a85,t.d85,by kernel_rfl,Fp T,T.q85.k,T.q85.b⟩
theorem scLaw:FnScope ["_law_script","_law_names","_law_deeds","_law_questions","_law_rows","_law_found","_law_mind","_law_k","_law_question_here"] ["_law_script"] (aB Hi):=mkS
theorem ok_law(T:Txt P w K mg t):FO P w K mg base 127 t.a111 t.d111 ["_law_script"] (spLaw K):=by
 have G102:=Ht (base:=base) T;have G107:=Jb (base:=base) T;have G108:=Jc (base:=base) T;have G109:=K6 (base:=base) T;have G90:=M3 (base:=base) T (Nh T);have G101:=Cd (base:=base) T;have G98:=Bo (base:=base) T;have G110:=K7 (base:=base) T;refine T.q111.F.ok2 (k:=126) scLaw (fun cdv A outer s H vs Q E hr h=>?_);obtain⟨a,cs,rfl,hS,hlen,k⟩:=h;have nd:=scLaw.nd
 refine ⟨_,(ao (psc 1 nd (aQ G102 (hr.mo) T.q102.m T.q102.k T.q102.b aJ (aa (pvl 0) aj)))
   (ao (psl 2 nd (aQ G107 (hr.mo) T.q107.m T.q107.k T.q107.b aJ (aa (pvc 1) (aa (pvl 0) aj))))
   (ao (gH (i:=3) rfl ["_law_k","_law_cell","_law_names"] [none,none,some 1] nd rfl rfl (vL (aG rM (ie tK (pvl 0) (iD ak) (iD ak)) (bF (aa ak aj))) T.zm) (by kernel_rfl) (fun _ _ _ _ _ _=>(iI (K:=K) (n:=2) rfl rfl (bB (pgl 0 (ndS (l:=["_law_k","_law_cell","_law_names"]))) (bB (pgl 1 (ndS (l:=["_law_k","_law_cell","_law_names"]))) dR)))) (fun _ _ _ _ _ _=>cN) (fun _ _ _ _ _ _=>(aQ G108 (hr.mo) T.q108.m T.q108.k T.q108.b aJ (aa (pvc 2) (aa (pvl 1) (aa (pvl 0) aj))))))
   (ao (psl 4 nd (aG rM (aG rM (bF (aa (aG bj az (bW PySem.F.plainAttrs_str PySem.F.slot_str_join PySem.F.type_str_join Gy az (aa (pvc 1) aj))) aj)) (pvl 2)) (cj rfl ["_law_question_here"] [none] (cZ (pvl 3)) (by kernel_rfl) (fun _ _ _ _ _ _=>(pgl 0 (ndS (l:=["_law_question_here"])))) (fun _ _ _ _ _ _=>cN) (fun _ _ _ _ _ _=>(aQ G109 (hr.mo) T.q109.m T.q109.k T.q109.b aJ (aa (pvl 0) aj))))))
   (ao (psl 5 nd (aQ G90 (hr.mo) T.q90.m T.q90.k T.q90.b aJ (aa (bW PySem.F.plainAttrs_str PySem.F.slot_str_join PySem.F.type_str_join jZ az (aa (pvl 4) aj)) aj)))
   (ao (aV (cQ (bZ (aQ G101 (hr.mo) T.q101.m T.q101.k T.q101.b aJ (aa (pvl 5) (aa (aZ aX T.zd Bt.len (aa (pvl 3) aj)) (aa (aZ aX T.zd Bt.len (aa (pvl 2) aj)) aj))))))
    (aq (aA eQ))
    aP)
   (ao (psl 6 nd (bw (aa (pvc 1) (aa (dh dB T.zn Bt.tuple (aa (cj rfl ["_law_world"] [none] (gj T.zp (aa (aG eV ak (aZ aX T.zd Bt.len (aa (pvc 1) aj))) aj)) (by kernel_rfl) (fun _ _ _ _ _ _=>(pgl 0 (ndS (l:=["_law_world"])))) (fun _ _ _ _ _ _=>cN) (fun _ _ _ _ _ _=>ak)) aj)) aj))))
   (ao (aV (aH lC (aZ aX T.zd Bt.len (aa (pvl 2) aj)) ak (aN _))
    (aq (psl 6 nd (pix cg (pix aK (pvl 5) ak) (lA jD ak))))
    aP)
   (ao (aV (cQ (bZ (aQ G98 (hr.mo) T.q98.m T.q98.k T.q98.b aJ (aa (pvl 6) (aa (pvc 1) aj)))))
    (aq (aA eQ))
    aP)
   (ao (dU own1 rfl (vL (pvl 3) T.zm) (mz (n:=2) rfl (bB (pgl 7 nd) (bB (pgl 8 nd) dR)))
    (aq (aV (cQ (bZ (aQ G110 (hr.mo) T.q110.m T.q110.k T.q110.b aJ (aa (pvl 6) (aa (pvl 8) (aa (pix cg (pix aK (pvl 5) ak) (pvl 7)) aj))))))
     (aq (aA eQ))
     aP)))
   (aq (aA eQ)))))))))))),?_⟩
 refine⟨_,rfl,a,cs,rfl,hS,fun np ns H1 s01 hnp h1 h8 hN=>?_⟩;refine⟨_,rfl,_,rfl,np,a,ns,cs,rfl,hnp,h1,h8,hN,s01.seq hS,fun dl D H2 s12 hdl hD hD3=>?_⟩;have s02:=s01.trans s12;have hnp2:=s12 _ _ hnp;obtain⟨ds,hds,hdl'⟩:=Jd cs (some 4) (some 64);refine⟨_,rfl,_,rfl,_,rfl,a,_,rfl,s02.seq hS,fun ls hls=>?_⟩;rw[hds];have s23:=aD (o:=.lst (ds.map V.int)) hls;refine⟨lk (by first|exact qnb rfl|simp),fun l7 hl7=>?_⟩;have s34:=aD (o:=.lst [.int 7]) hl7;refine⟨ls,l7,_,_,rfl,rfl,s34 _ _ au,au,lk (by simp;omega),fun lq hlq=>?_⟩;have eq1:ds.map V.int++[V.int 7]=(ds++[7]).map V.int:=by rw[List.map_append];rfl
 rw[eq1];have s45:=aD (o:=.lst ((ds++[7]).map V.int)) hlq;have s25:=(s23.trans s34).trans s45;have hlq5:(upd (upd (upd H2 ls (.lst (ds.map V.int))) l7 (.lst [.int 7])) lq (.lst ((ds++[7]).map V.int))) lq=some (.lst ((ds++[7]).map V.int)):=au;generalize upd (upd (upd H2 ls (.lst (ds.map V.int))) l7 (.lst [.int 7])) lq (.lst ((ds++[7]).map V.int))=H5 at s25 hlq5 ⊢;have hel:(ds++[7]).length <= 64:=by rw[List.length_append];show ds.length+1<=64;omega
 generalize ds++[7]=es at hlq5 hel;have hnp5:=s25 _ _ hnp2;refine⟨lq,rfl,⟨_,SqL.of hlq5⟩,?_⟩;refine uI (K:=K) (a:=lq) (xs:=es.map V.int) (fun i ys H'=>Same H5 H'/\∃ qs:List Pl,qs.length=i/\Paired (QAt H') ys qs/\∀ x∈qs,PlOk ns x/\isD x=false) ⟨Same.refl _,[],rfl,.nil,fun x hx=>nomatch hx⟩ (lk (by rw[qlm];omega)) (fun i ys H' ⟨_,qs,e,h,_⟩=>by rw[Paired.length h,e];exact qnr _) (fun i ys H' ⟨s',_⟩=>SqL.of (s' _ _ hlq5)) ?_ ?_
 . rintro i y ys H6 hi ⟨s56,qs,hql,hQ,hqo⟩ e he
   have hi64:i<64:=by
    have:=(List.getElem?_eq_some_iff.mp hi).1;rw[qlm]at this;omega
   rw[qgm]at hi
   obtain⟨c,hc,rfl⟩:∃ c,es[i]? = some c/\y=V.int c:=by
    cases q:es[i]? with
    |none=>rw[q]at hi;cases hi
    |some c=>rw[q]at hi;exact⟨c,rfl,(qsi hi).symm⟩
   have s67:=aD (o:=.tup [.int (i:Int),.int c]) he;refine⟨e,_,rfl,SqT.of au,rfl,_,_,rfl,_,_,rfl,rfl,⟨rfl,trivial⟩,?_⟩;have s57:=s56.trans s67;refine⟨_,rfl,_,rfl,_,rfl,np,ns,c,(i:Int),rfl,s57 _ _ hnp5,h1,h8,hN,by omega,by omega,fun v x H7 s78 hx hxo hxd=>⟨s57.trans s78,qs++[x],by rw[List.length_append,hql];rfl,dM (Paired.mapP hQ fun _ _ z=>(z.tups s67.tups).tups s78.tups) (.cons hx .nil),fun z hz=>?_⟩⟩;rcases List.mem_append.mp hz with hz|hz
   . exact hqo z hz
   . rw[List.mem_singleton.mp hz]
     exact⟨hxo,hxd⟩
 rintro qv H6 ⟨s56,Qs,hql,hQ,hqo⟩ ql hql';rw[qlm]at hql;have s57:=s56.trans (aD (o:=.lst qv) hql');have hql7:(upd H6 ql (.lst qv)) ql=some (.lst qv):=au;have hQ7:Paired (QAt (upd H6 ql (.lst qv))) qv Qs:=Paired.mapP hQ fun _ _ w=>w.tups (aD hql').tups
 generalize upd H6 ql (.lst qv)=H7 at s57 hql7 hQ7 ⊢;have hqvl:qv.length=Qs.length:=Paired.length hQ7;have s27:=s25.trans s57;have hnp7:=s27 _ _ hnp2;have hdl7:=s27 _ _ hdl;obtain⟨hn1,hn2⟩:=vh hN h8;have l6:("names ":Str).length=6:=by decide +kernel
 have e6:("names ":Str)="names" ++ " ":=by decide +kernel
 have sz:1000<=sizeLine:=by decide
 refine⟨rfl,_,rfl,_,np,ns,rfl,rfl,SqT.of hnp7,qnt hn1 (by decide),_,_,rfl,rfl,by omega,lk (by first|exact qnb rfl|simp),fun l1 hl1=>?_⟩;have s78:=aD (o:=.lst [.str ("names "++Txt.join " " ns)]) hl1;refine⟨_,rfl,l1,dl,_,_,rfl,rfl,au,s78 _ _ hdl7,lk (by simp;omega),fun l2 hl2=>?_⟩;have s89:=aD (o:=.lst ([.str ("names "++Txt.join " " ns)]++(D.map bL).map V.str)) hl2;have hl29:(upd (upd H7 l1 (.lst [.str ("names "++Txt.join " " ns)])) l2 (.lst ([.str ("names "++Txt.join " " ns)]++(D.map bL).map V.str))) l2=_:=au;have s79:=s78.trans s89;generalize upd (upd H7 l1 (.lst [.str ("names "++Txt.join " " ns)])) l2 (.lst ([.str ("names "++Txt.join " " ns)]++(D.map bL).map V.str))=H9 at s79 hl29 ⊢;refine⟨_,rfl,ql,rfl,⟨_,SqL.of (s79 _ _ hql7)⟩,?_⟩;refine gA (K:=K) (a:=ql) (xs:=qv) (fun i ys H'=>Same H9 H'/\ys=((Qs.take i).map bL).map V.str) ⟨Same.refl _,rfl⟩ (lk (by omega)) (fun i ys H' ⟨_,e⟩=>by rw[e,qlm,qlm,List.length_take];omega) (fun i ys H' ⟨s',_⟩=>SqL.of (s' _ _ (s79 _ _ hql7))) ?_ ?_
 . rintro i y ys HA hi ⟨s9A,rfl⟩
   obtain⟨x,hx,hpx⟩:=bQ hQ7 i y hi;obtain⟨hxo,hxd⟩:=hqo x (qmg hx);refine⟨trivial,_,rfl,y,x,ns,rfl,hpx.tups (s79.trans s9A).tups,hxo,hN,hxd,fun HB sAB=>⟨s9A.trans sAB,?_⟩⟩;rw[qta,hx,List.map_append,List.map_append]
   rfl
 rintro ys HA ⟨s9A,rfl⟩ l3 hl3;rw[hqvl,List.take_length];have sAB:=aD (o:=.lst ((Qs.map bL).map V.str)) hl3;refine⟨l2,l3,_,_,rfl,rfl,sAB _ _ (s9A _ _ hl29),au,lk (by simp;omega),fun l4 hl4=>?_⟩
 have e3:([V.str ("names "++Txt.join " " ns)]++(D.map bL).map V.str)++(Qs.map bL).map V.str=((("names" ++ " "++Txt.join " " ns):: (D++Qs).map bL).map V.str):=by
  rw[e6,List.map_append,List.map_cons,List.map_append]
  rfl
 rw[e3];have sBC:=aD (o:=.lst ((("names" ++ " "++Txt.join " " ns):: (D++Qs).map bL).map V.str)) hl4;have hl4C:(upd (upd HA l3 (.lst ((Qs.map bL).map V.str))) l4 (.lst ((("names" ++ " "++Txt.join " " ns):: (D++Qs).map bL).map V.str))) l4=_:=au;have s7C:=((s79.trans s9A).trans sAB).trans sBC;generalize upd (upd HA l3 (.lst ((Qs.map bL).map V.str))) l4 (.lst ((("names" ++ " "++Txt.join " " ns):: (D++Qs).map bL).map V.str))=HC at s7C hl4C ⊢
 have hok:∀ x∈D++Qs,PlOk ns x:=fun x hx=>by
  rcases List.mem_append.mp hx with hx|hx
  . exact(hD x hx).1
  . exact(hqo x hx).1
 have h90:(D++Qs).length <= 90:=by rw[List.length_append];omega
 have ln:("\n":Str).length=1:=by decide +kernel
 refine⟨rfl,_,rfl,_,l4,_,rfl,rfl,SqL.of hl4C,?_,?_⟩
 . have hs:=xM (ys:=("names" ++ " "++Txt.join " " ns):: (D++Qs).map bL) (m:=270) fun y hy=>by
    rcases List.mem_cons.mp hy with rfl|hy
    . rw[<- e6,Str.length_append]
      omega
    . obtain⟨x,hx,rfl⟩:=List.mem_map.mp hy
      exact rz hN (hok x hx)
   rw[List.length_cons,qlm]at hs ⊢;rw[ln];have:((D++Qs).length+1) * 270<=91 * 270:=Nat.mul_le_mul_right _ (by omega);omega
 obtain⟨r0,rest,f1,f2,f3,f4,f5,f6,f7,f8,f9⟩:=FN hN h1 h8 hok h90;refine⟨nT ns (D++Qs),0,r0,rest,(D++Qs).map lZ,ns,iy ns (D++Qs) (cG ns),mj ns (D++Qs) (cG ns),rfl,f1,f2,f3,f4,f5,f6,h1,h8,hN.nd,f7,f8,f9,fun q al ml np2 ms H7' s67 hq hal hml hnp2' hPm=>?_⟩;have dD:∀ x∈D,isD x=true:=fun x hx=>(hD x hx).2
 have dQ:∀ x∈Qs,isD x=false:=fun x hx=>(hqo x hx).2
 obtain⟨m1,m2⟩:=rC ns D Qs (cG ns) dD dQ;have x1:=rB ns D Qs (cG ns) dD dQ;obtain⟨hMF,hBF⟩:=Ab D (cG ns) 0 hD (pJ ns) (fun z hz=>by rw[(List.mem_replicate.mp hz).2];decide);obtain⟨rF,hrF⟩:∃ rF,tE ns D (cG ns)=rF:=⟨_,rfl⟩
 rw[hrF]at m2 x1 hMF hBF
 have hB40:0+(D.length:Int) * 10 ^ 31<=10 ^ 40:=by
  have q1:(D.length:Int) * 10 ^ 31<=3 * 10 ^ 31:=Int.mul_le_mul_of_nonneg_right (by omega) (by decide);have q2:(3:Int) * 10 ^ 31<=10 ^ 40:=by decide
  omega
 rw[x1]at hal;have hmsl:ms.length=D.length:=by rw[Paired.length hPm,m1]
 have s77:=s7C.trans s67;have hdlZ:=s77 _ _ hdl7;have hqlZ:=s77 _ _ hql7;refine⟨_,rfl,_,rfl,ql,_,rfl,.inl (SqL.of hqlZ),_,rfl,dl,_,rfl,.inl (SqL.of hdlZ),q,al,ml,_,ms,_,_,rfl,hq,hal,hml,by rw[qlm];omega,by rw[qlm,qlm];omega,_,rfl,bz ?_⟩;have hnp7:=s77 _ _ hnp7;have hQZ:Paired (QAt H7') qv Qs:=Paired.mapP hQ7 fun _ _ w=>w.tups s77.tups
 clear hnp2 hnp5;obtain⟨N,hNe⟩:∃ N,N=2 ^ ns.length:=⟨_,rfl⟩
 have h256:N<=256:=hNe ▸ Nat.pow_le_pow_right (n:=2) (by decide) h8;have e1:(1:Int) * 2 ^ (((ns.map V.str).length:Nat):Int).toNat=(N:Int):=by rw[qlm,Int.toNat_natCast,hNe];simp
 refine⟨_,rfl,_,rfl,np,_,rfl,.inr (SqT.of hnp7),_,_,rfl,rfl,⟨by rw[qlm];omega,by rw[qlm];omega,by decide⟩,?_⟩;refine⟨_,rfl,by show -(2 ^ 62)<=(1:Int) * 2 ^ (((ns.map V.str).length:Nat):Int).toNat;rw[e1];omega,by show(1:Int) * 2 ^ (((ns.map V.str).length:Nat):Int).toNat<2 ^ 62;rw[e1];omega,?_⟩
 try dsimp -proj -iota only
 rw[e1,Int.toNat_natCast];refine c7 (n:=N) (fun _=>.int 0) (lk (by omega)) (fun i R hi r=>⟨trivial,r⟩) (fun lc hlc=>?_)
 have er:((List.range N).map fun _=>V.int 0)=(cG ns).map V.int:=by
  unfold cG;rw[<- hNe,List.map_const',List.length_range];simp
 rw[er];have u1:=aD (o:=.lst ((cG ns).map V.int)) hlc;refine⟨lc,_,rfl,.inl ⟨SqL.of au,fun r2 hr2=>⟨lk (by first|exact qnb rfl|simp),fun mq hmq=>?_⟩⟩⟩;have u2:=aD (o:=.tup ((cG ns).map V.int)) hr2;have u3:=aD (o:=.tup [.ref np,.ref r2]) hmq;have s78:=(u1.trans u2).trans u3;have hm8:MindAt (upd (upd (upd H7' lc (.lst ((cG ns).map V.int))) r2 (.tup ((cG ns).map V.int))) mq (.tup [.ref np,.ref r2])) mq np r2 (cG ns):=⟨au,u3 _ _ au,by unfold cG;rw[List.length_replicate,<- hNe];exact h256⟩
 generalize upd (upd (upd H7' lc (.lst ((cG ns).map V.int))) r2 (.tup ((cG ns).map V.int))) mq (.tup [.ref np,.ref r2])=H8 at s78 hm8 ⊢;have hPm8:Paired (p6 H8 np2) ms (iy ns (D++Qs) (cG ns)):=Paired.mapP hPm fun _ _ ⟨a',r',e,h⟩=>⟨a',r',e,h.same s78⟩
 have hQ8:Paired (QAt H8) qv Qs:=Paired.mapP hQZ fun _ _ w=>w.tups s78.tups
 have hq8:=s78 _ _ hq;have hml8:=s78 _ _ hml;have hal8:=s78 _ _ hal;have hnp8:=s78 _ _ hnp7;have hnp28:=s78 _ _ hnp2';have hdl8:=s78 _ _ hdlZ;have hql8:=s78 _ _ hqlZ;apply Js (fun σ H'=>∃(b nb rb:Addr),σ=[some (.ref a),some (.ref np),some (.ref dl),some (.ref ql),some (.ref l4),some (.ref q),some (.ref b),none,none]/\H'=H8/\MindAt H8 b nb rb rF/\H8 nb=some (.tup (ns.map V.str)))
 . intro g
   refine⟨_,rfl,dl,_,rfl,.inl (SqL.of hdl8),_,_,rfl,rfl,_,rfl,aU (fun z=>?w1) (fun z=>?w2)⟩
   case w2 =>
    show FQ _ _ _ _ _;apply g
    have hz:D=[]:=by
     cases D with
     |nil=>rfl
     |cons x r=>exact absurd (qdt (by show(0:Int)<(((x::r).map bL).map V.str).length;simp)) z
    refine⟨mq,np,r2,rfl,rfl,?_,hnp8⟩;have e:rF=cG ns:=by rw[<- hrF,hz];rfl
    rw[e];exact hm8
   case w1 =>
    rcases m2 with m2|⟨mss,m2⟩
    . rw[m2]at z
      exact absurd z (by decide)
    have hne:ms≠[]:=fun e=>by
     have hp:=Paired.length hPm8;rw[e,m2]at hp;simp at hp
    obtain⟨mv,v,hms⟩:∃ mv v,ms=mv++[v]:=⟨ms.dropLast,ms.getLast hne,(List.dropLast_concat_getLast hne).symm⟩
    have hlm:mv.length=mss.length:=by
     have hp:=Paired.length hPm8;rw[hms,m2]at hp
     simpa using hp
    obtain⟨rr,hrr,b2,rb2,rfl,hm2⟩:=bQ hPm8 mv.length v (by rw[hms];simp)
    have err:rr=rF:=by
     rw[m2,hlm]at hrr
     simpa using hrr.symm
    rw[err]at hm2;refine⟨_,rfl,q,_,1,_,rfl,rfl,SqT.of hq8,rfl,1,rfl,ml,_,_,.ref b2,rfl,rfl,SqL.of hml8,by rw[hms];exact mX mv _,?_⟩;exact g _ _ ⟨b2,np2,rb2,rfl,rfl,hm2,hnp28⟩
 . rintro σ H9' ⟨b,nb,rb,rfl,e,hmb,hnb⟩
   have e:=e.symm;subst e;refine⟨_,rfl,_,rfl,b,nb,np,rb,ns,rF,rfl,hmb,hnb,hnp8,h8,hMF,_,rfl,bz ?_⟩
   refine⟨_,rfl,ql,rfl,⟨_,SqL.of hql8⟩,wG (K:=K) (a:=ql) (xs:=qv)
    (fun i σ H'=>∃(o7 o8:Option V),σ=[some (.ref a),some (.ref np),some (.ref dl),some (.ref ql),some (.ref l4),some (.ref q),some (.ref b),o7,o8]/\Same H8 H')
    ⟨none,none,rfl,Same.refl _⟩ (fun i σ H' _ ⟨_,_,_,s'⟩=>SqL.of (s' _ _ hql8)) ?_ ?_⟩
   . rintro i y σ HX hi ⟨o7,o8,rfl,s8X⟩ d hd
     obtain⟨x,hx,hpx⟩:=bQ hQ8 i y hi;obtain⟨hxo,hxd⟩:=hqo x (qmg hx);have v1:=aD (o:=.tup [.int i,y]) hd;refine⟨d,_,rfl,SqT.of au,rfl,_,_,rfl,_,_,rfl,rfl,?_⟩;generalize upd HX d (.tup [.int i,y])=HY at v1 ⊢;have s8Y:=s8X.trans v1;refine⟨_,rfl,_,rfl,_,rfl,q,_,0,_,rfl,rfl,SqT.of (s8Y _ _ hq8),rfl,_,rfl,al,_,(i:Int),.str (jP ns x rF),rfl,rfl,SqL.of (s8Y _ _ hal8),b8 (j:=i) (by rw[qgm,qgm,hx];rfl),?_⟩;refine⟨b,nb,rb,y,ns,rF,x,_,rfl,hmb.same s8Y,s8Y _ _ hnb,h8,hMF,hBF,hB40,hpx.tups s8Y.tups,hxo,hxd,fun HB sAB=>⟨_,rfl,bz ?_⟩⟩;exact⟨_,_,rfl,s8Y.trans sAB⟩
   . rintro σ HX ⟨o7,o8,rfl,_⟩
     exact k _
theorem tm{K:W.Frag}{h:Heap}{mg:Str->Option Value}(X:K.In h)(G:h.Ns mainGlobals mg){x:Str}{st:Stmt}{ps:List Str}{f:Addr}{fd:FuncData}(q:Tq K x st f fd)(b:Binds K fd ps []):Tp K mg x st ps f fd:=⟨q.F,b,W.mg_of X G q.a,q.F.kp⟩
end
theorem tq{K:W.Frag}{x:Str}{st:Stmt}{f:Addr}{od an:Option Addr}{sl:Array (Option Value)}{oc kV dc pm cd ct:Value}(a:W.nsIn K mainGlobals x=some (some (.ref f)))(l:K.lookup f=some ⟨oc,od,.func (W.fnOf x x (iG st) (gh st) (aB st) .none kV dc pm an cd ct),sl⟩)(c:W.codeIn K cd x=true)(k:W.keepIn K (.ref f)=true):Tq K x st f (W.fnOf x x (iG st) (gh st) (aB st) .none kV dc pm an cd ct):=⟨CP l c k,a⟩
theorem mq{K:W.Frag}{C:Addr}{x q:Str}{st:Stmt}{f:Addr}{od an:Option Addr}{sl:Array (Option Value)}{oc kV dc pm cd ct:Value}(a:W.findIn K (.ref C) x=some (some (.ref f)))(i:W.isFn K (.ref f)=true)(l:K.lookup f=some ⟨oc,od,.func (W.fnOf x q (iG st) (gh st) (aB st) .none kV dc pm an cd ct),sl⟩)(c:W.codeIn K cd q=true)(k:W.keepIn K (.ref f)=true):Mq K C x q st f (W.fnOf x q (iG st) (gh st) (aB st) .none kV dc pm an cd ct):=⟨CP l c k,a,i⟩
theorem txt_mk{P:Program}{w:World}{K:W.Frag}{h:Heap}{mg:Str->Option Value}(X:K.In h)(G:h.Ns mainGlobals mg)
  {f0 f1 f2 f3 f4 f5 f6 f7 f8 f9 f10 f11 f12 f13 f14 f15 f16 f17 f18 f19 f20 f21 f22 f24 f26 f27 f28 f29 f30 f31 f32 f33 f34 f35 f36 f37 f41 f45 f46 f47 f48 f49 f50 f51 f52 f53 f54 f55 f56 f57 f58 f59 f60 f61 f62 f63 f64 f65 f66 f67 f68 f69 f70 f71 f72 f73 f74 f75 f76 f77 f78 f79 f80 f81 f82 f83 f84 f85 f86 f87 f88 f89 f90 f91 f92 f93 f94 f95 f96 f97 f98 f99 f100 f101 f102 f103 f104 f105 f106 f107 f108 f109 f110 f111 B0 B1 B2 B3 B4 B5 B6 B7 B8 B9 B10 B11 B12 B13 B14 B15 B16 B17:Addr} {e0 e1 e2 e3 e4 e5 e6 e7 e8 e9 e10 e11 e12 e13 e14 e15 e16 e17 e18 e19 e20 e21 e22 e24 e26 e27 e28 e29 e30 e31 e32 e33 e34 e35 e36 e37 e41 e45 e46 e47 e48 e49 e50 e51 e52 e53 e54 e55 e56 e57 e58 e59 e60 e61 e62 e63 e64 e65 e66 e67 e68 e69 e70 e71 e73 e74 e75 e76 e77 e78 e82 e83 e84 e85 e86 e87 e88 e89 e90 e91 e92 e93 e94 e95 e96 e97 e98 e99 e100 e101 e102 e103 e104 e105 e106 e107 e108 e109 e110 e111:FuncData} {B18 B19 B20 B21 B22:Tok}
  (A0:W.nsIn K mainGlobals "MindError"=some (some (.ref B3)))
  (A1:W.nsIn K mainGlobals "NoSentence"=some (some (.ref B9)))
  (A2:W.nsIn K mainGlobals "TooDeep"=some (some (.ref B10)))
  (A3:W.nsIn K mainGlobals "NoName"=some (some (.ref B8)))
  (A4:W.nsIn K mainGlobals "Always"=some (some (.ref B0)))
  (A5:W.nsIn K mainGlobals "Never"=some (some (.ref B4)))
  (A6:W.nsIn K mainGlobals "NoMinds"=some (some (.ref B7)))
  (A7:W.nsIn K mainGlobals "Unlike"=some (some (.ref B12)))
  (A8:W.nsIn K mainGlobals "NoBack"=some (some (.ref B6)))
  (A9:W.nsIn K mainGlobals "NoAgain"=some (some (.ref B5)))
  (A10:W.nsIn K mainGlobals "Log"=some (some (.ref B2)))
  (A11:W.nsIn K mainGlobals "Unfinished"=some (some (.ref B11)))
  (A12:W.nsIn K mainGlobals "Course"=some (some (.ref B1)))
  (q0:Tq K "is_letter" S0 f0 e0)
  (q1:Tq K "is_name" S1 f1 e1)
  (q2:Tq K "parts_of" S2 f2 e2)
  (q3:Tq K "layer_below" S3 f3 e3)
  (q4:Tq K "depth" S4 f4 e4)
  (q5:Tq K "names_in" S5 f5 e5)
  (q6:Tq K "bit_at" S6 f6 e6)
  (q7:Tq K "last_world" S7 f7 e7)
  (q8:Tq K "need_names" S8 f8 e8)
  (q9:Tq K "sides" S9 f9 e9)
  (q10:Tq K "turned_about" S10 f10 e10)
  (q11:Tq K "joined" S11 f11 e11)
  (q12:Tq K "full" S12 f12 e12)
  (q13:Tq K "worlds_with" S13 f13 e13)
  (q14:Tq K "sides_of_names" S14 f14 e14)
  (q15:Tq K "table" S15 f15 e15)
  (q16:Tq K "breaking" S16 f16 e16)
  (q17:Tq K "flat" S17 f17 e17)
  (q18:Tq K "least_rank" S18 f18 e18)
  (q19:Tq K "firmness" S19 f19 e19)
  (q20:Tq K "held" S20 f20 e20)
  (q21:Tq K "both_leasts" S21 f21 e21)
  (q22:Tq K "leaning" S22 f22 e22)
  (q24:Tq K "need_alike" S24 f24 e24)
  (q26:Tq K "is_nearest_in_all" S26 f26 e26)
  (q27:Tq K "common" S27 f27 e27)
  (q28:Tq K "turned" S28 f28 e28)
  (q29:Tq K "given_up" S29 f29 e29)
  (q30:Tq K "taken_on" S30 f30 e30)
  (q31:Tq K "nearest" S31 f31 e31)
  (q32:Tq K "lost" S32 f32 e32)
  (q33:Mq K B2 "__init__" "Log.__init__" S33 f33 e33)
  (q34:Mq K B2 "stand" "Log.stand" S34 f34 e34)
  (q35:Mq K B2 "take" "Log.take" S35 f35 e35)
  (q36:Mq K B2 "give" "Log.give" S36 f36 e36)
  (q37:Mq K B2 "turn" "Log.turn" S37 f37 e37)
  (q41:Mq K B2 "mind" "Log.mind" S41 f41 e41)
  (q45:Tq K "words_of" S45 f45 e45)
  (q46:Tq K "leaf" S46 f46 e46)
  (q47:Tq K "takes_part" S47 f47 e47)
  (q48:Mq K B11 "__init__" "Unfinished.__init__" S48 f48 e48)
  (q49:Mq K B11 "begin_part" "Unfinished.begin_part" S49 f49 e49)
  (q50:Mq K B11 "follow_part" "Unfinished.follow_part" S50 f50 e50)
  (q51:Mq K B11 "fold" "Unfinished.fold" S51 f51 e51)
  (q52:Mq K B11 "fold_to_bracket" "Unfinished.fold_to_bracket" S52 f52 e52)
  (q53:Mq K B11 "close_bracket" "Unfinished.close_bracket" S53 f53 e53)
  (q54:Mq K B11 "whole" "Unfinished.whole" S54 f54 e54)
  (q55:Tq K "tree_of_words" S55 f55 e55)
  (q56:Tq K "read" S56 f56 e56)
  (q57:Tq K "rows_in" S57 f57 e57)
  (q58:Tq K "words_in" S58 f58 e58)
  (q59:Tq K "first_word" S59 f59 e59)
  (q60:Tq K "behind_first_word" S60 f60 e60)
  (q61:Tq K "is_figure" S61 f61 e61)
  (q62:Tq K "number_in" S62 f62 e62)
  (q63:Tq K "number_above_0" S63 f63 e63)
  (q64:Tq K "lean_in" S64 f64 e64)
  (q65:Tq K "names_form" S65 f65 e65)
  (q66:Tq K "numbered_form" S66 f66 e66)
  (q67:Tq K "take_form" S67 f67 e67)
  (q68:Tq K "lean_form" S68 f68 e68)
  (q69:Tq K "sentence_form" S69 f69 e69)
  (q70:Tq K "lost_form" S70 f70 e70)
  (q71:Tq K "keep_form" S71 f71 e71)
  (q73:Tq K "bare_form" S73 f73 e73)
  (q74:Tq K "form_of" S74 f74 e74)
  (q75:Mq K B1 "__init__" "Course.__init__" S75 f75 e75)
  (q76:Tq K "do_take" S76 f76 e76)
  (q77:Tq K "do_give" S77 f77 e77)
  (q78:Tq K "do_lean" S78 f78 e78)
  (q82:Tq K "shown_world" S82 f82 e82)
  (q83:Tq K "answer_ask" S83 f83 e83)
  (q84:Tq K "answer_lost" S84 f84 e84)
  (q85:Tq K "answer_worlds" S85 f85 e85)
  (q86:Tq K "do_row" S86 f86 e86)
  (q87:Tq K "lacks_a_mind" S87 f87 e87)
  (q88:Tq K "word_against" S88 f88 e88)
  (q89:Tq K "names_told" S89 f89 e89)
  (q90:Tq K "run" S90 f90 e90)
  (q91:Tq K "_law_cell_at" S91 f91 e91)
  (q92:Tq K "_law_whole" S92 f92 e92)
  (q93:Tq K "_law_mixed" S93 f93 e93)
  (q94:Tq K "_law_names_by" S94 f94 e94)
  (q95:Tq K "_law_tree_by" S95 f95 e95)
  (q96:Tq K "_law_column" S96 f96 e96)
  (q97:Tq K "_law_table" S97 f97 e97)
  (q98:Tq K "_law_is_mind" S98 f98 e98)
  (q99:Tq K "_law_written" S99 f99 e99)
  (q100:Tq K "_law_sides" GK f100 e100)
  (q101:Tq K "_law_run_fits" GP f101 e101)
  (q102:Tq K "_law_told_names" GQ f102 e102)
  (q103:Tq K "_law_world_text" GR f103 e103)
  (q104:Tq K "_law_worlds_text" GX f104 e104)
  (q105:Tq K "_law_ask_fits" GZ f105 e105)
  (q106:Tq K "_law_lost_fits" Hc f106 e106)
  (q107:Tq K "_law_deed_rows" Hd f107 e107)
  (q108:Tq K "_law_question" Hf f108 e108)
  (q109:Tq K "_law_question_row" Hg f109 e109)
  (q110:Tq K "_law_answer_fits" Hh f110 e110)
  (q111:Tq K "law" Hi f111 e111)
  (A13:catches K B9=true)
  (A14:W.excIn K B9 bmV "ValueError.__new__"=true)
  (A15:catches K B10=true)
  (A16:W.excIn K B10 bmV "ValueError.__new__"=true)
  (A17:catches K B8=true)
  (A18:W.excIn K B8 bmV "ValueError.__new__"=true)
  (A19:catches K B0=true)
  (A20:W.excIn K B0 bmV "ValueError.__new__"=true)
  (A21:under K B0 B0=true)
  (A22:catches K B4=true)
  (A23:W.excIn K B4 bmV "ValueError.__new__"=true)
  (A24:under K B4 B0=false)
  (A25:under K B4 B4=true)
  (A26:W.excIn K B7 bmV "ValueError.__new__"=true)
  (A27:W.excIn K B12 bmV "ValueError.__new__"=true)
  (A28:catches K B6=true)
  (A29:catches K B5=true)
  (A30:W.plainGet K B2 Str.empty=true)
  (A31:W.hasDictIn K B2=true)
  (A32:W.plainOver K B2=true)
  (A33:W.findIn K (.ref B2) "__setattr__"=some (some (.builtin "object.__setattr__")))
  (A34:W.makesIn K B2=true)
  (A35:W.keepIn K (.ref B2)=true)
  (A36:W.findIn K (.ref B2) "standing"=some none)
  (A37:W.findIn K (.ref B2) "taken_back"=some none)
  (A38:W.plainGet K B11 Str.empty=true)
  (A39:W.hasDictIn K B11=true)
  (A40:W.plainOver K B11=true)
  (A41:W.findIn K (.ref B11) "__setattr__"=some (some (.builtin "object.__setattr__")))
  (A42:W.makesIn K B11=true)
  (A43:W.keepIn K (.ref B11)=true)
  (A44:W.findIn K (.ref B11) "trees"=some none)
  (A45:W.findIn K (.ref B11) "signs"=some none)
  (A46:W.plainGet K B1 Str.empty=true)
  (A47:W.hasDictIn K B1=true)
  (A48:W.plainOver K B1=true)
  (A49:W.findIn K (.ref B1) "__setattr__"=some (some (.builtin "object.__setattr__")))
  (A50:W.makesIn K B1=true)
  (A51:W.keepIn K (.ref B1)=true)
  (A52:W.findIn K (.ref B1) "log"=some none)
  (A53:W.findIn K (.ref B1) "kept"=some none)
  (A54:W.findIn K (.ref B1) "answers"=some none)
  (A55:W.findIn K (.ref B1) "minds_behind"=some none)
  (A56:W.nsIn K mainGlobals "LONGEST_NAME"=some (some (.int 8 B18)))
  (A57:W.nsIn K mainGlobals "LONGEST_TEXT"=some (some (.int 200 B19)))
  (A58:W.nsIn K mainGlobals "GREATEST_DEPTH"=some (some (.int 40 B20)))
  (A59:W.nsIn K mainGlobals "MOST_FIGURES"=some (some (.int 30 B21)))
  (A60:W.nsIn K mainGlobals "MOST_NAMES"=some (some (.int 8 B22)))
  (A61:W.nsIn K mainGlobals "KINDS"=some (some (.ref B13)))
  (A62:MdK P w K B13 [(.inr "&",.str "and"),(.inr "|",.str "or"),(.inr ">",.str "then"),(.inr "=",.str "same")])
  (A63:W.nsIn K mainGlobals "BINDS"=some (some (.ref B14)))
  (A64:MdK P w K B14 [(.inr "&",.int 4),(.inr "|",.int 3),(.inr ">",.int 2),(.inr "=",.int 1)])
  (A65:W.nsIn K mainGlobals "FORMS"=some (some (.ref B15)))
  (A66:MdK P w K B15 [(.inr "names",.ref f65),(.inr "take",.ref f67),(.inr "give",.ref f69),(.inr "lean",.ref f68),(.inr "keep",.ref f71),(.inr "pour",.ref f72),(.inr "back",.ref f73),(.inr "again",.ref f73),(.inr "ask",.ref f69),(.inr "lost",.ref f70),(.inr "worlds",.ref f73)])
  (A67:W.nsIn K mainGlobals "DEEDS"=some (some (.ref B16)))
  (A68:MdK P w K B16 [(.inr "take",.ref f76),(.inr "give",.ref f77),(.inr "lean",.ref f78),(.inr "pour",.ref f79),(.inr "back",.ref f80),(.inr "again",.ref f81)])
  (A69:W.nsIn K mainGlobals "ANSWERS"=some (some (.ref B17)))
  (A70:MdK P w K B17 [(.inr "ask",.ref f83),(.inr "lost",.ref f84),(.inr "worlds",.ref f85)])
  (A71:W.nsIn K mainGlobals "all"=some none)
  (A72:W.nsIn K mainGlobals "bool"=some none)
  (A73:W.nsIn K mainGlobals "enumerate"=some none)
  (A74:W.nsIn K mainGlobals "int"=some none)
  (A75:W.nsIn K mainGlobals "isinstance"=some none)
  (A76:W.nsIn K mainGlobals "len"=some none)
  (A77:W.nsIn K mainGlobals "list"=some none)
  (A78:W.nsIn K mainGlobals "max"=some none)
  (A79:W.nsIn K mainGlobals "min"=some none)
  (A80:W.nsIn K mainGlobals "range"=some none)
  (A81:W.nsIn K mainGlobals "sorted"=some none)
  (A82:W.nsIn K mainGlobals "str"=some none)
  (A83:W.nsIn K mainGlobals "sum"=some none)
  (A84:W.nsIn K mainGlobals "tuple"=some none) (hl:∀(s:Shared) (u:Value),BindsTo s e111 ⟨[u],[]⟩ [("_law_script",u)]):∃ t:Adr,Txt P w K mg t :=
 ⟨⟨f0,e0,f1,e1,f2,e2,f3,e3,f4,e4,f5,e5,f6,e6,f7,e7,f8,e8,f9,e9,f10,e10,f11,e11,f12,e12,f13,e13,f14,e14,f15,e15,f16,e16,f17,e17,f18,e18,f19,e19,f20,e20,f21,e21,f22,e22,0,e0,f24,e24,0,e0,f26,e26,f27,e27,f28,e28,f29,e29,f30,e30,f31,e31,f32,e32,f33,e33,f34,e34,f35,e35,f36,e36,f37,e37,0,e0,0,e0,0,e0,f41,e41,0,e0,0,e0,0,e0,f45,e45,f46,e46,f47,e47,f48,e48,f49,e49,f50,e50,f51,e51,f52,e52,f53,e53,f54,e54,f55,e55,f56,e56,f57,e57,f58,e58,f59,e59,f60,e60,f61,e61,f62,e62,f63,e63,f64,e64,f65,e65,f66,e66,f67,e67,f68,e68,f69,e69,f70,e70,f71,e71,f72,e0,f73,e73,f74,e74,f75,e75,f76,e76,f77,e77,f78,e78,f79,e0,f80,e0,f81,e0,f82,e82,f83,e83,f84,e84,f85,e85,f86,e86,f87,e87,f88,e88,f89,e89,f90,e90,f91,e91,f92,e92,f93,e93,f94,e94,f95,e95,f96,e96,f97,e97,f98,e98,f99,e99,f100,e100,f101,e101,f102,e102,f103,e103,f104,e104,f105,e105,f106,e106,f107,e107,f108,e108,f109,e109,f110,e110,f111,e111,B3,B9,B10,B8,B0,B4,B7,B12,B6,B5,0,B2,B11,B1,B18,B19,B20,B21,B22,0,B13,B14,B15,B16,B17⟩,⟨tm X G q0 (q0.F.binds fun _ _ _ _ _ _=>L2.us1 fun _=>rfl),tm X G q1 (q1.F.binds fun _ _ _ _ _ _=>L2.us1 fun _=>rfl),tm X G q2 (q2.F.binds fun _ _ _ _ _ _=>L2.us1 fun _=>rfl),tm X G q3 (q3.F.binds fun _ _ _ _ _ _=>L2.us1 fun _=>rfl),tm X G q4 (q4.F.binds fun _ _ _ _ _ _=>L2.us1 fun _=>rfl),tm X G q5 (q5.F.binds fun _ _ _ _ _ _=>L2.us1 fun _=>rfl),tm X G q6 (q6.F.binds fun _ _ _ _ _ _=>L2.us2 fun _ _=>rfl),tm X G q7 (q7.F.binds fun _ _ _ _ _ _=>L2.us1 fun _=>rfl),tm X G q8 (q8.F.binds fun _ _ _ _ _ _=>L2.us2 fun _ _=>rfl),tm X G q9 (q9.F.binds fun _ _ _ _ _ _=>L2.us3 fun _ _ _=>rfl),tm X G q10 (q10.F.binds fun _ _ _ _ _ _=>L2.us1 fun _=>rfl),tm X G q11 (q11.F.binds fun _ _ _ _ _ _=>L2.us3 fun _ _ _=>rfl),tm X G q12 (q12.F.binds fun _ _ _ _ _ _=>L2.us1 fun _=>rfl),tm X G q13 (q13.F.binds fun _ _ _ _ _ _=>L2.us2 fun _ _=>rfl),tm X G q14 (q14.F.binds fun _ _ _ _ _ _=>L2.us2 fun _ _=>rfl),tm X G q15 (q15.F.binds fun _ _ _ _ _ _=>L2.us2 fun _ _=>rfl),tm X G q16 (q16.F.binds fun _ _ _ _ _ _=>L2.us2 fun _ _=>rfl),tm X G q17 (q17.F.binds fun _ _ _ _ _ _=>L2.us1 fun _=>rfl),tm X G q18 (q18.F.binds fun _ _ _ _ _ _=>L2.us2 fun _ _=>rfl),tm X G q19 (q19.F.binds fun _ _ _ _ _ _=>L2.us2 fun _ _=>rfl),tm X G q20 (q20.F.binds fun _ _ _ _ _ _=>L2.us2 fun _ _=>rfl),tm X G q21 (q21.F.binds fun _ _ _ _ _ _=>L2.us2 fun _ _=>rfl),tm X G q22 (q22.F.binds fun _ _ _ _ _ _=>L2.us2 fun _ _=>rfl),tm X G q24 (q24.F.binds fun _ _ _ _ _ _=>L2.us1 fun _=>rfl),tm X G q26 (q26.F.binds fun _ _ _ _ _ _=>L2.us2 fun _ _=>rfl),tm X G q27 (q27.F.binds fun _ _ _ _ _ _=>L2.us1 fun _=>rfl),tm X G q28 (q28.F.binds fun _ _ _ _ _ _=>L2.us3 fun _ _ _=>rfl),tm X G q29 (q29.F.binds fun _ _ _ _ _ _=>L2.us2 fun _ _=>rfl),tm X G q30 (q30.F.binds fun _ _ _ _ _ _=>L2.us3 fun _ _ _=>rfl),tm X G q31 (q31.F.binds fun _ _ _ _ _ _=>L2.us2 fun _ _=>rfl),tm X G q32 (q32.F.binds fun _ _ _ _ _ _=>L2.us3 fun _ _ _=>rfl),⟨q33.F,q33.F.binds fun _ _ _ _ _ _=>L2.us2 fun _ _=>rfl,⟨q33.a,q33.i,q33.F.kp⟩⟩,⟨q34.F,q34.F.binds fun _ _ _ _ _ _=>L2.us2 fun _ _=>rfl,⟨q34.a,q34.i,q34.F.kp⟩⟩,⟨q35.F,q35.F.binds fun _ _ _ _ _ _=>L2.us3 fun _ _ _=>rfl,⟨q35.a,q35.i,q35.F.kp⟩⟩,⟨q36.F,q36.F.binds fun _ _ _ _ _ _=>L2.us2 fun _ _=>rfl,⟨q36.a,q36.i,q36.F.kp⟩⟩,⟨q37.F,q37.F.binds fun _ _ _ _ _ _=>L2.us3 fun _ _ _=>rfl,⟨q37.a,q37.i,q37.F.kp⟩⟩,⟨q41.F,q41.F.binds fun _ _ _ _ _ _=>L2.us1 fun _=>rfl,⟨q41.a,q41.i,q41.F.kp⟩⟩,tm X G q45 (q45.F.binds fun _ _ _ _ _ _=>L2.us1 fun _=>rfl),tm X G q46 (q46.F.binds fun _ _ _ _ _ _=>L2.us1 fun _=>rfl),tm X G q47 (q47.F.binds fun _ _ _ _ _ _=>L2.us2 fun _ _=>rfl),⟨q48.F,q48.F.binds fun _ _ _ _ _ _=>L2.us1 fun _=>rfl,⟨q48.a,q48.i,q48.F.kp⟩⟩,⟨q49.F,q49.F.binds fun _ _ _ _ _ _=>L2.us2 fun _ _=>rfl,⟨q49.a,q49.i,q49.F.kp⟩⟩,⟨q50.F,q50.F.binds fun _ _ _ _ _ _=>L2.us2 fun _ _=>rfl,⟨q50.a,q50.i,q50.F.kp⟩⟩,⟨q51.F,q51.F.binds fun _ _ _ _ _ _=>L2.us1 fun _=>rfl,⟨q51.a,q51.i,q51.F.kp⟩⟩,⟨q52.F,q52.F.binds fun _ _ _ _ _ _=>L2.us1 fun _=>rfl,⟨q52.a,q52.i,q52.F.kp⟩⟩,⟨q53.F,q53.F.binds fun _ _ _ _ _ _=>L2.us1 fun _=>rfl,⟨q53.a,q53.i,q53.F.kp⟩⟩,⟨q54.F,q54.F.binds fun _ _ _ _ _ _=>L2.us1 fun _=>rfl,⟨q54.a,q54.i,q54.F.kp⟩⟩,tm X G q55 (q55.F.binds fun _ _ _ _ _ _=>L2.us1 fun _=>rfl),tm X G q56 (q56.F.binds fun _ _ _ _ _ _=>L2.us1 fun _=>rfl),tm X G q57 (q57.F.binds fun _ _ _ _ _ _=>L2.us1 fun _=>rfl),tm X G q58 (q58.F.binds fun _ _ _ _ _ _=>L2.us1 fun _=>rfl),tm X G q59 (q59.F.binds fun _ _ _ _ _ _=>L2.us1 fun _=>rfl),tm X G q60 (q60.F.binds fun _ _ _ _ _ _=>L2.us1 fun _=>rfl),tm X G q61 (q61.F.binds fun _ _ _ _ _ _=>L2.us1 fun _=>rfl),tm X G q62 (q62.F.binds fun _ _ _ _ _ _=>L2.us1 fun _=>rfl),tm X G q63 (q63.F.binds fun _ _ _ _ _ _=>L2.us1 fun _=>rfl),tm X G q64 (q64.F.binds fun _ _ _ _ _ _=>L2.us1 fun _=>rfl),tm X G q65 (q65.F.binds fun _ _ _ _ _ _=>L2.us1 fun _=>rfl),tm X G q66 (q66.F.binds fun _ _ _ _ _ _=>L2.us2 fun _ _=>rfl),tm X G q67 (q67.F.binds fun _ _ _ _ _ _=>L2.us1 fun _=>rfl),tm X G q68 (q68.F.binds fun _ _ _ _ _ _=>L2.us1 fun _=>rfl),tm X G q69 (q69.F.binds fun _ _ _ _ _ _=>L2.us1 fun _=>rfl),tm X G q70 (q70.F.binds fun _ _ _ _ _ _=>L2.us1 fun _=>rfl),tm X G q71 (q71.F.binds fun _ _ _ _ _ _=>L2.us1 fun _=>rfl),tm X G q73 (q73.F.binds fun _ _ _ _ _ _=>L2.us1 fun _=>rfl),tm X G q74 (q74.F.binds fun _ _ _ _ _ _=>L2.us1 fun _=>rfl),⟨q75.F,q75.F.binds fun _ _ _ _ _ _=>L2.us2 fun _ _=>rfl,⟨q75.a,q75.i,q75.F.kp⟩⟩,tm X G q76 (q76.F.binds fun _ _ _ _ _ _=>L2.us3 fun _ _ _=>rfl),tm X G q77 (q77.F.binds fun _ _ _ _ _ _=>L2.us3 fun _ _ _=>rfl),tm X G q78 (q78.F.binds fun _ _ _ _ _ _=>L2.us3 fun _ _ _=>rfl),tm X G q82 (q82.F.binds fun _ _ _ _ _ _=>L2.us2 fun _ _=>rfl),tm X G q83 (q83.F.binds fun _ _ _ _ _ _=>L2.us2 fun _ _=>rfl),tm X G q84 (q84.F.binds fun _ _ _ _ _ _=>L2.us2 fun _ _=>rfl),tm X G q85 (q85.F.binds fun _ _ _ _ _ _=>L2.us2 fun _ _=>rfl),tm X G q86 (q86.F.binds fun _ _ _ _ _ _=>L2.us2 fun _ _=>rfl),tm X G q87 (q87.F.binds fun _ _ _ _ _ _=>L2.us2 fun _ _=>rfl),tm X G q88 (q88.F.binds fun _ _ _ _ _ _=>L2.us2 fun _ _=>rfl),tm X G q89 (q89.F.binds fun _ _ _ _ _ _=>L2.us1 fun _=>rfl),tm X G q90 (q90.F.binds fun _ _ _ _ _ _=>L2.us1 fun _=>rfl),tm X G q91 (q91.F.binds fun _ _ _ _ _ _=>L2.us2 fun _ _=>rfl),tm X G q92 (q92.F.binds fun _ _ _ _ _ _=>L2.us1 fun _=>rfl),tm X G q93 (q93.F.binds fun _ _ _ _ _ _=>L2.us2 fun _ _=>rfl),tm X G q94 (q94.F.binds fun _ _ _ _ _ _=>L2.us2 fun _ _=>rfl),tm X G q95 (q95.F.binds fun _ _ _ _ _ _=>L2.us3 fun _ _ _=>rfl),tm X G q96 (q96.F.binds fun _ _ _ _ _ _=>L2.us2 fun _ _=>rfl),tm X G q97 (q97.F.binds fun _ _ _ _ _ _=>L2.us2 fun _ _=>rfl),tm X G q98 (q98.F.binds fun _ _ _ _ _ _=>L2.us2 fun _ _=>rfl),tm X G q99 (q99.F.binds fun _ _ _ _ _ _=>L2.us1 fun _=>rfl),tm X G q100 (q100.F.binds fun _ _ _ _ _ _=>L2.us2 fun _ _=>rfl),tm X G q101 (q101.F.binds fun _ _ _ _ _ _=>L2.us3 fun _ _ _=>rfl),tm X G q102 (q102.F.binds fun _ _ _ _ _ _=>L2.us1 fun _=>rfl),tm X G q103 (q103.F.binds fun _ _ _ _ _ _=>L2.us2 fun _ _=>rfl),tm X G q104 (q104.F.binds fun _ _ _ _ _ _=>L2.us1 fun _=>rfl),tm X G q105 (q105.F.binds fun _ _ _ _ _ _=>L2.us3 fun _ _ _=>rfl),tm X G q106 (q106.F.binds fun _ _ _ _ _ _=>L2.us4 fun _ _ _ _=>rfl),tm X G q107 (q107.F.binds fun _ _ _ _ _ _=>L2.us2 fun _ _=>rfl),tm X G q108 (q108.F.binds fun _ _ _ _ _ _=>L2.us3 fun _ _ _=>rfl),tm X G q109 (q109.F.binds fun _ _ _ _ _ _=>L2.us1 fun _=>rfl),tm X G q110 (q110.F.binds fun _ _ _ _ _ _=>L2.us3 fun _ _ _=>rfl),tm X G q111 (q111.F.binds fun _ _ _ _ _ _=>L2.us1 fun _=>rfl),W.mg_of X G A1,A13,A14,W.mg_of X G A2,A15,A16,W.mg_of X G A3,A17,A18,W.mg_of X G A4,A19,A20,A21,W.mg_of X G A5,A22,A23,A24,A25,W.mg_of X G A6,A26,W.mg_of X G A7,A27,W.mg_of X G A8,A28,W.mg_of X G A9,A29,W.mg_of X G A10,⟨A30,A31,A32,A33⟩,⟨A34,q33.a,q33.i,A35⟩,A36,A37,W.mg_of X G A11,⟨A38,A39,A40,A41⟩,⟨A42,q48.a,q48.i,A43⟩,A44,A45,W.mg_of X G A12,⟨A46,A47,A48,A49⟩,⟨A50,q75.a,q75.i,A51⟩,A52,A53,A54,A55,W.mg_of X G A56,W.mg_of X G A57,W.mg_of X G A58,W.mg_of X G A59,W.mg_of X G A60,W.mg_of X G A61,A62,W.mg_of X G A63,A64,W.mg_of X G A65,A66,W.mg_of X G A67,A68,W.mg_of X G A69,A70,W.mg_none_of X G A71,W.mg_none_of X G A72,W.mg_none_of X G A73,W.mg_none_of X G A74,W.mg_none_of X G A75,W.mg_none_of X G A76,W.mg_none_of X G A77,W.mg_none_of X G A78,W.mg_none_of X G A79,W.mg_none_of X G A80,W.mg_none_of X G A81,W.mg_none_of X G A82,W.mg_none_of X G A83,W.mg_none_of X G A84,hl⟩⟩
end K62
namespace PySem.W.Fast
def tw7548879805105852004:=0
def tw8517567060046632933:=0
def tw1380113923417465731:=0
def tw1518705225569649484:=0
def tw16342968082934595397:=0
def tw14708150275234865571:=0
def tw4211453990633963754:=0
def tw3515851440264584940:=0
def tw1886965030994253184:=0
def tw10902178456139052902:=0
def tw11956841444611586983:=0
def tw433202263630127530:=0
def tw8119033123849430924:=0
def tw15609023299629973693:=0
def tw295999641338758643:=0
def tw7448257505611691212:=0
def tw10869288507776462994:=0
def tw12508334936119376335:=0
def tw15276730344693436156:=0
def tw6593812031832074411:=0
def tw1093217741844531973:=0
def tw5559201063579645698:=0
def tw10556589429411654906:=0
def tw6464268627251463452:=0
def tw3835481208431213049:=0
def tw2635420042845830748:=0
def tw15441844952070891961:=0
def tw1741755833914316161:=0
def tw8009058016240647351:=0
def tw15686219992694848646:=0
def tw13585175262903151153:=0
def tw13942708547523507058:=0
def tw8025197071748326755:=0
def tw5025693813691192814:=0
def tw17464550861566858256:=0
def tw15250271833800307157:=0
def tw15495645638086890820:=0
def tw6788692732120364107:=0
def tw7961945930807436122:=0
def tw15681802346984187189:=0
def tw6698114461141215160:=0
def tw10518288526742474834:=0
def tw12519582930859466792:=0
def tw5272082126341601941:=0
def tw14147292501625546105:=0
def tw12743810697530653484:=0
def tw3060072019033940352:=0
def tw5861208547959429927:=0
def tw8617852874750238745:=0
def tw10191967291183091431:=0
def tw1398343639106577808:=0
def tw1404086130817763327:=0
def tw4559308997027204391:=0
def tw8786521062363793380:=0
def tw1420511400274078998:=0
def tw8221731845919661609:=0
def tw6175183931497474115:=0
def tw4050907274781719747:=0
def tw12985687675577251955:=0
def tw5275119161578877994:=0
def tw14434069292278217497:=0
def tw12444863373979849737:=0
def tw5264047760821804437:=0
def tw2851162181921372259:=0
def tw13009428680950883115:=0
def tw7834511282831103374:=0
def tw17296331035511394637:=0
def tw4805668952343224060:=0
def tw16470832133105240453:=0
def tw18048813893472140966:=0
def tw2869070492046289024:=0
def tw604151965383171749:=0
def tw11148498603577600452:=0
def tw10573873819984653143:=0
def tw17743940458948463666:=0
def tw15408953594462825332:=0
def tw14602344048636454478:=0
def tw10862397979790106246:=0
def tw14621475683383404912:=0
def tw5053625497537892667:=0
def tw7124413824221287804:=0
def tw2008431096074868270:=0
def tw1619378399655853164:=0
def tw15703836188679729432:=0
def tw5618852162945576034:=0
def tw2579628017098481168:=0
def tw15192985327298593061:=0
def tw6149628816745036476:=0
def tw12692699081151648976:=0
def tw12408328640446715386:=0
def tw4058450912261213968:=0
def tw2618134596969174903:=0
def tw10471693615938005249:=0
def tw17619214748216467344:=0
def tw937530168708569180:=0
def tw8660681018656152616:=0
def tw14307998762641099713:=0
def tw12514897567931986075:=0
def tw1447865954647597918:=0
def tw3986208326617029242:=0
def tw11173344069466466163:=0
def tw2165828224827489173:=0
def tw7685112487606205616:=0
def tw8066624202884762375:=0
def tw17480247117672388826:=0
def tw74756825525396773:=0
def tw9017818856356700697:=0
def tw11292570604261686718:=0
def tw11290964885506870278:=0
def tw945832842506036141:=0
def tw3266366080703806658:=0
def tw10585813740762387295:=0
def tw15547039792574029535:=0
def tw13041922941007701578:=0
def tw14609805263773291441:=0
def tw9017416406900576416:=0
def tw15679759947666003063:=0
def tw14890734772841734139:=0
def tw12973932211005944046:=0
def tw1059822937334780162:=0
def tw6917363380431800465:=0
def tw6237066977175583276:=0
def tw16531971031411369971:=0
def tw898178551204320176:=0
def tw2270383083314596083:=0
def tw16075351340690819452:=0
def tw4112329861526568659:=0
def tw17034428997764297668:=0
def tw17113653939253930431:=0
def tw17844982516431822741:=0
def tw10503480979910313687:=0
def tw9072552666707196562:=0
def tw5657735679356618193:=0
def tw7561934099747749961:=0
def tw14920115227017175808:=0
def tw9183218882850736848:=0
def tw8753283012835608921:=0
def tw14724941255660928860:=0
def tw6623524640112826570:=0
def tw3622623225348407769:=0
def tw1493897722502012682:=0
def tw4060407705729079638:=0
def tw16458201878912020619:=0
def tw10865584761329141584:=0
def tw6106479182076790512:=0
def tw7083498648921458099:=0
def tw9958083083002092648:=0
def tw14360781388739331993:=0
def tw18098120237498502459:=0
def tw6792442946956898133:=0
def tw18432974814294765043:=0
def tw4321903857639551482:=0
def tw7232754944675350675:=0
def tw989845596606771535:=0
def tw17666817701797029145:=0
def tw7338360242139345420:=0
def tw3397869579811683956:=0
def tw2053144078860336407:=0
def tw10316146636115161571:=0
def tw4643882339405875239:=0
def tw3687995663894063356:=0
def tw11350605312776201379:=0
def tw11088877817638419151:=0
def tw12547275745193737560:=0
def tw7977211228961263935:=0
def tw55619323228473728:=0
def tw8808591328377818601:=0
def tw15278268961693390556:=0
def tw13135701284871287186:=0
def tw473501613487832061:=0
def tw11246847292731284712:=0
def tw12577059744710251549:=0
def tw12653903006257119385:=0
def tw16536621606197764323:=0
def tw14390777212842657014:=0
def tw1065111817289856419:=0
def tw1882754974446757688:=0
def tw14735954478695158597:=0
def tw1615709477687531824:=0
def tw17508428299690186560:=0
def tw10258341129310299641:=0
def tw5690651392066988805:=0
def tw5724595683885424950:=0
def tw10982618427504717306:=0
def tw3554556488371180308:=0
def tw8717872172287847150:=0
def tw7203791341169265373:=0
def tw7739534147318151931:=0
def tw8862117538419265544:=0
def tw13609688757553573584:=0
def tw489667781443975710:=0
def tw9631584539106846990:=0
def tw1593279532794838416:=0
def tw10817807678764400279:=0
def tw15096075777533431230:=0
def tw3708137622793262640:=0
def tw11425653874500855601:=0
def tw15383140664598107769:=0
def tw10331898686850184155:=0
def tw748779869462346970:=0
def tw11244134943766057322:=0
def tw2592584014216306442:=0
def tw2733095481265199787:=0
def tw14234540440130102771:=0
def tw3911667978151718627:=0
def tw3525861743676224477:=0
def tw13003926021112453328:=0
def tw3612265175819429812:=0
def tw14671788925011490803:=0
def tw835444879728716378:=0
def tw11385052717366015775:=0
def tw14687196765689503335:=0
def tw11183172560523844290:=0
def tw15685474301291616642:=0
def tw4039726502490858178:=0
def tw3403212568586135716:=0
def tw14401769264030557126:=0
def tw10135237617280997009:=0
def tw8598567420134001179:=0
def tw2521440461722339794:=0
def tw5172221767420767944:=0
def tw14614274749022214428:=0
def tw6084232871665857197:=0
def tw14388420629026222782:=0
def tw11809872073311129977:=0
def tw14968212685824293669:=0
def tw5059842553393474250:=0
def tw14466505466383466277:=0
def tw16042903250988304573:=0
def tw5662149477680311342:=0
def tw1310352174823233019:=0
def tw6827671569513162191:=0
def tw14821632815413484187:=0
def tw17419093995159053844:=0
def tw12333162471997970297:=0
def tw3953761418972839057:=0
def tw5026896670620379715:=0
def tw666527063662560905:=0
def tw12196344462882375314:=0
def tw10416578704385206018:=0
def tw17001067929847129970:=0
def tw12662722362928797304:=0
def tw438595145124125565:=0
def tw2848025886114660165:=0
def tw3585273081301668352:=0
def tw6709779319024529780:=0
def tw17605000272239938466:=0
def tw9251201847997807958:=0
def tw16466845648238926766:=0
def tw7153207711213328327:=0
def tw12803578578018333414:=0
def tw2021137852410336641:=0
def tw18255459578193649662:=0
def tw6272131245717373633:=0
def tw17558801636986992879:=0
def tw481308119468520728:=0
def tw5817552870750694374:=0
def tw14892000206760566821:=0
def tw11961282946263968426:=0
def tw5870065553554643744:=0
def tw7170392153790111668:=0
def tw17709626910774927840:=0
def tw15955606110663180945:=0
def tw11656632479476785091:=0
def tw2597414638642081163:=0
def tw17239849271995698609:=0
def tw4106151900754504850:=0
def tw10604754197210330603:=0
def tw15977100716109838792:=0
def tw13262792322841127584:=0
def tw312108360477144241:=0
def tw4130165511831181717:=0
def tw15419580609897230007:=0
def tw18101491156318586686:=0
def tw201465484355059167:=0
def tw8005182922043506247:=0
def tw6531964069027462642:=0
def tw17683296831113659413:=0
def tw17973216264985098095:=0
def tw8503753792998247152:=0
def tw13740333171966365575:=0
def tw12519021610326619267:=0
def tw2737790725107434183:=0
def tw9833237976964982096:=0
def tw7655055199545579226:=0
def tw16299818870512264591:=0
def tw12678903632671162791:=0
def tw585867872757991252:=0
def tw5318313903982355181:=0
def tw11352954378721096075:=0
def tw3693725667350262686:=0
def tw5565120273349412464:=0
def tw14449489925638657524:=0
def tw13324086701037128359:=0
def tw14999312019609109006:=0
def tw14131581424997505482:=0
def tw11589450453350607044:=0
def tw5120843197357577474:=0
def tw17876337702366529826:=0
def tw15592398691247349252:=0
def tw7844831939397384320:=0
def tw6841637274517347110:=0
def tw13723025482900909235:=0
def tw13868846606890672840:=0
def tw3931708817548642341:=0
def tw3711194440648555760:=0
def tw12703470311181715631:=0
def tw14982879865263382715:=0
def tw3316484497380200841:=0
def tw4983879029154989673:=0
def tw8634813725061227176:=0
def tw12672001228502248184:=0
def tw15473537121268256089:=0
def tw2223577573948622720:=0
def tw11744446797599842201:=0
def tw1131959609381283343:=0
def tw8396334180894933519:=0
def tw3831764832231849861:=0
def tw6113000624829345163:=0
def tw3464612296272106028:=0
def tw13511672714937949216:=0
def tw14147805433454722884:=0
def tw5760495708147187191:=0
def tw1951793209358205660:=0
def tw10339696639965669299:=0
def tw644076551101418062:=0
def tw7974946156233261026:=0
def tw17850660665165338932:=0
def tw17740599720158973444:=0
def tw2649233508066390310:=0
def tw6864808219325467831:=0
def tw16781138368772772132:=0
def tw9763131194762074145:=0
def tw2173833120252981751:=0
def tw13087067280627819850:=0
def tw12869536731812947923:=0
def tw13882035931341507481:=0
def tw14020288179095870123:=0
def tw6928948086948582860:=0
def tw478988128194634466:=0
def tw12186300185888506939:=0
def tw2276864348060938042:=0
def tw8202314804734473329:=0
def tw12191174826084423097:=0
def tw10148554591381125720:=0
def tw13921112727817593282:=0
def tw10010982215766886886:=0
def tw5634845446432951109:=0
def tw13786444321093758796:=0
def tw14266839819340657885:=0
def tw3700483927766821476:=0
def tw11573734750187698398:=0
def tw16581979295002119536:=0
def tw15628211081782386447:=0
def tw10123280586616068995:=0
def tw3266531401897675140:=0
def tw2148083308072174834:=0
def tw4535267363129177377:=0
def tw92052805369015159:=0
def tw13426912477882609787:=0
def tw6118022192216596009:=0
def tw16241529650542896067:=0
def tw7713553543557862703:=0
def tw4638991657664701554:=0
def tw17214424235122527790:=0
def tw6213024627521070680:=0
def tw3189250205831429523:=0
def tw15049809838968983021:=0
def tw12634733578093085702:=0
def tw14471160182742462339:=0
def tw6492513305980486522:=0
def tw17153165720680103028:=0
def tw14008956205745239405:=0
def tw61987449925146310:=0
def tw17247199593664987:=0
def tw17112475954973826580:=0
def tw3611109540402305699:=0
def tw1958897068153078667:=0
def tw9670187501392180146:=0
def tw13998745879941665511:=0
def tw6118674938645612862:=0
def tw14265378570599911116:=0
def tw15570568259162828388:=0
def tw7716824303748084569:=0
def tw9813566367991188631:=0
def tw13693412059766749618:=0
def tw12958704214267906434:=0
def tw905571678624134286:=0
def tw7166708938517917501:=0
def tw1006642058384028293:=0
def tw12222037488148619041:=0
def tw18309538471609307756:=0
def tw17097161366203057655:=0
def tw10655630732056534286:=0
def tw12959567717424788277:=0
def tw12020257905695238482:=0
def tw2898043206358850941:=0
def tw908593405559340175:=0
def tw16995230671323010886:=0
def tw18178447335596541068:=0
def tw9787530009415358562:=0
def tw14826452482347041288:=0
def tw7324207486878285155:=0
def tw2102648634677032736:=0
def tw15330224223889516165:=0
def tw4192767321873427372:=0
def tw11485454616373273967:=0
def tw512796629037492838:=0
def tw10655779885119068375:=0
def tw885051048564178885:=0
def tw5065913906464851326:=0
def tw1145342910040604440:=0
def tw2800230811074655410:=0
def tw6850244155311511951:=0
def tw1004171320088754899:=0
def tw888562066996095693:=0
def tw14776542005136432693:=0
def tw4493455825065098043:=0
def tw1170055831146275226:=0
def tw15353420619594134847:=0
def tw13872940429790714212:=0
def tw15808667071413342747:=0
def tw6898984992085022528:=0
def tw14247852634516895555:=0
def tw8763859194392940147:=0
def tw2245641002202917975:=0
def tw2251394498242707698:=0
def tw6597023482700080929:=0
def tw14048687971315760077:=0
def tw12330660674300442989:=0
def tw2956607237789283826:=0
def tw4685645140987481899:=0
def tw16897557387478283452:=0
def tw8643918721366814213:=0
def tw6235770663045383078:=0
def tw6618571238364078685:=0
def tw11848009509213666621:=0
def tw17548455639839872101:=0
def tw4679951338035265829:=0
def tw6320177642671907045:=0
def tw7273157853594381231:=0
def tw13414227663864083782:=0
def tw8577036370043198896:=0
def tw11692770240091315959:=0
def tw8294747524491419807:=0
def tw2018385110540138703:=0
def tw11399767101984973445:=0
def tw2508947421885286222:=0
def tw10112163123875847787:=0
def tw6472519091620095363:=0
def tw16101634426673629480:=0
def tw1634205456260267859:=0
def tw9586034904415133026:=0
def tw10909720051604686381:=0
def tw6320100060565674889:=0
def tw1583837925784106245:=0
def tw11689152606973226487:=0
def tw4151708314208661374:=0
def tw15535115943828086273:=0
def tw4275337231044461543:=0
def tw1450949740794963339:=0
def tw9217626737118794781:=0
def tw3003924119804742912:=0
def tw12071204945499392408:=0
def tw10894828589265092123:=0
def tw13774656797922043549:=0
def tw6915565561454653326:=0
def tw13507452821004264692:=0
def tw13039974141071813683:=0
def tw5364670327287090264:=0
def tw16275864052400599072:=0
def tw12415299923765161991:=0
def tw10200687860592810496:=0
def tw12462260731035192833:=0
def tw7199937166774383178:=0
def tw8270701595269086656:=0
def tw16945510464266591513:=0
def tw7279287003355503555:=0
def tw7059358250552832177:=0
def tw4413900624446802125:=0
def tw10156303669646019801:=0
def tw1356371971614033183:=0
def tw11308133406294251269:=0
def tw12685638637361416371:=0
def tw11594642222990339642:=0
def tw12566989798003359075:=0
def tw15662710270169558958:=0
def tw16813398540106411695:=0
def tw4030666399250919013:=0
def tw3937077613877307983:=0
def tw13648770755608366945:=0
def tw3802525781248870216:=0
def tw7691317426803208277:=0
def tw12727208846632400869:=0
def tw15020358977290396169:=0
def tw8447651730912095029:=0
def tw11774914210283298814:=0
def tw3425484737711421711:=0
def tw1079133741396744081:=0
def tw7354390764378918311:=0
def tw1154878166204592141:=0
def tw10335123635247587756:=0
def tw11900927219484725183:=0
def tw6978561742183632321:=0
def tw1412571978447675348:=0
def tw9143811595846137253:=0
def tw3736762240661408234:=0
end PySem.W.Fast
open PySem PySem.W PyProof.Rows
set_option maxRecDepth 100000 in
set_option maxHeartbeats 0 in
theorem PySem.Challenge.cw_mindchange_k62_one_mind_asked_holds : PySem.Challenge.rw_mindchange_k62_one_mind_asked.Holds := by
 w_on;o_law;k_head;(case hw=>w_witness2)
 k_fill
 refine L2.walk_ofX (l:=PySem.Challenge.rw_mindchange_k62_one_mind_asked) (n:=63) (k:=127) (x := "_law_script") (sp:=K62.spLaw) rfl (by decide) rfl ⟨rfl,by decide,by decide⟩ (fun w h Y=>PySem.W.kIn_of Y) ?F ?S
 case F =>
  intro w mg fa h KX G hmg
  have T:∃ t,K62.Txt PySem.Challenge.rw_mindchange_k62_one_mind_asked.prog w (L2.KOf KX) mg t:=by
   dsimp only[L2.KOf]
   refine' K62.txt_mk KX G ?A0 ?A1 ?A2 ?A3 ?A4 ?A5 ?A6 ?A7 ?A8 ?A9 ?A10 ?A11 ?A12 ?q0 ?q1 ?q2 ?q3 ?q4 ?q5 ?q6 ?q7 ?q8 ?q9 ?q10 ?q11 ?q12 ?q13 ?q14 ?q15 ?q16 ?q17 ?q18 ?q19 ?q20 ?q21 ?q22 ?q24 ?q26 ?q27 ?q28 ?q29 ?q30 ?q31 ?q32 ?q33 ?q34 ?q35 ?q36 ?q37 ?q41 ?q45 ?q46 ?q47 ?q48 ?q49 ?q50 ?q51 ?q52 ?q53 ?q54 ?q55 ?q56 ?q57 ?q58 ?q59 ?q60 ?q61 ?q62 ?q63 ?q64 ?q65 ?q66 ?q67 ?q68 ?q69 ?q70 ?q71 ?q73 ?q74 ?q75 ?q76 ?q77 ?q78 ?q82 ?q83 ?q84 ?q85 ?q86 ?q87 ?q88 ?q89 ?q90 ?q91 ?q92 ?q93 ?q94 ?q95 ?q96 ?q97 ?q98 ?q99 ?q100 ?q101 ?q102 ?q103 ?q104 ?q105 ?q106 ?q107 ?q108 ?q109 ?q110 ?q111 ?A13 ?A14 ?A15 ?A16 ?A17 ?A18 ?A19 ?A20 ?A21 ?A22 ?A23 ?A24 ?A25 ?A26 ?A27 ?A28 ?A29 ?A30 ?A31 ?A32 ?A33 ?A34 ?A35 ?A36 ?A37 ?A38 ?A39 ?A40 ?A41 ?A42 ?A43 ?A44 ?A45 ?A46 ?A47 ?A48 ?A49 ?A50 ?A51 ?A52 ?A53 ?A54 ?A55 ?A56 ?A57 ?A58 ?A59 ?A60 ?A61 ?A62 ?A63 ?A64 ?A65 ?A66 ?A67 ?A68 ?A69 ?A70 ?A71 ?A72 ?A73 ?A74 ?A75 ?A76 ?A77 ?A78 ?A79 ?A80 ?A81 ?A82 ?A83 ?A84 ?zhl
   (case A0|A1|A2|A3|A4|A5|A6|A7|A8|A9|A10|A11|A12=>k_is)
   (case q0|q1|q2|q3|q4|q5|q6|q7|q8|q9|q10|q11|q12|q13|q14|q15|q16|q17|q18|q19|q20|q21|q22|q24|q26|q27|q28|q29|q30|q31|q32|q45|q46|q47|q55|q56|q57|q58|q59|q60|q61|q62|q63|q64|q65|q66|q67|q68|q69|q70|q71|q73|q74|q76|q77|q78|q82|q83|q84|q85|q86|q87|q88|q89|q90|q91|q92|q93|q94|q95|q96|q97|q98|q99|q100|q101|q102|q103|q104|q105|q106|q107|q108|q109|q110|q111=>refine' K62.tq ?a ?l ?c ?k;(case a=>k_is);(case l=>k_is);(case c=>k_is);(case k=>k_is))
   (case q33|q34|q35|q36|q37|q41|q48|q49|q50|q51|q52|q53|q54|q75=>refine' K62.mq ?a ?i ?l ?c ?k;(case a=>k_is);(case i=>k_is);(case l=>k_is);(case c=>k_is);(case k=>k_is))
   (case A30|A31|A32|A33|A34|A35|A36|A37|A38|A39|A40|A41|A42|A43|A44|A45|A46|A47|A48|A49|A50|A51|A52|A53|A54|A55|A56|A57|A58|A59|A60|A61|A63|A65|A67|A69|A71|A72|A73|A74|A75|A76|A77|A78|A79|A80|A81|A82|A83|A84=>k_is)
   (case A13|A15|A17|A19|A21|A22|A24|A25|A28|A29=>kernel_rfl)
   (case A14=>k_exc)
   (case A16=>k_exc)
   (case A18=>k_exc)
   (case A20=>k_exc)
   (case A23=>k_exc)
   (case A26=>k_exc)
   (case A27=>k_exc)
   (case A62=>(refine' L2.mdk_of ?l ?m ?n ?s;(case l=>k_is);(case m=>(repeat (refine⟨rfl,⟨_,rfl⟩,⟨_,rfl⟩,?_⟩));exact True.intro);(case n=>decide +kernel);(case s=>kernel_rfl)))
   (case A64=>(refine' L2.mdk_of ?l ?m ?n ?s;(case l=>k_is);(case m=>(repeat (refine⟨rfl,⟨_,rfl⟩,⟨_,rfl⟩,?_⟩));exact True.intro);(case n=>decide +kernel);(case s=>kernel_rfl)))
   (case A66=>(refine' L2.mdk_of ?l ?m ?n ?s;(case l=>k_is);(case m=>(repeat (refine⟨rfl,⟨_,rfl⟩,rfl,?_⟩));exact True.intro);(case n=>decide +kernel);(case s=>kernel_rfl)))
   (case A68=>(refine' L2.mdk_of ?l ?m ?n ?s;(case l=>k_is);(case m=>(repeat (refine⟨rfl,⟨_,rfl⟩,rfl,?_⟩));exact True.intro);(case n=>decide +kernel);(case s=>kernel_rfl)))
   (case A70=>(refine' L2.mdk_of ?l ?m ?n ?s;(case l=>k_is);(case m=>(repeat (refine⟨rfl,⟨_,rfl⟩,rfl,?_⟩));exact True.intro);(case n=>decide +kernel);(case s=>kernel_rfl)))
   (case zhl=>exact fun s u=>.of_eq rfl)
  obtain⟨t,T⟩:=T
  have e0:=hmg.symm.trans T.q111.m
  cases e0
  refine' ⟨t.d111,?b,fun base kb nb=>K62.ok_law T⟩
  exact T.bl
 case S=>exact fun K H a ns hl hO hS=>⟨a,ns,rfl,hS,hl,fun _=>rfl⟩
#print axioms PySem.Challenge.cw_mindchange_k62_one_mind_asked_holds