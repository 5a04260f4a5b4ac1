import PyProof.Rows.All
import OpenK.KLine
import OpenK.KOwn
import OpenK.KWalk
import KE.KIsAll
import KE.KItem
import KE.KDictSum
import KE.KMinKey
import Wide.FinOn
import PyProof.EqAt
import PyProof.EqKinds
import PyProof.TupleCall
import PySem.Challenge.RW_mindchange_k67_whole_run_asked
set_option Elab.async false
set_option linter.all false
set_option maxRecDepth 100000
set_option maxHeartbeats 8000000
abbrev ae:=@PySem.wpAny_bind
abbrev ag:=@Array.length_toList
abbrev ah:=@List.size_toArray
abbrev ai:=@PySem.Str.length_append
abbrev ar:=@List.mem_singleton
abbrev av:=@List.mem_cons
abbrev ay:=@PySem.Heap.lt_size
abbrev aw:=@List.mem_append
abbrev ax:=@List.map_append
abbrev aE:=@Bool.and_eq_true_iff
abbrev aI:=@PySem.wpAny_pure
abbrev aS:=@List.length_append
abbrev a_:=@Nat.lt_of_lt_of_le
abbrev ba:=@Ne.symm
abbrev bg:=@PySem.Paired.length
abbrev bo:=@Int.toNat_natCast
abbrev bp:=@List.length_cons
abbrev bE:=@List.length_take
abbrev bS:=@List.take_length
abbrev bX:=@List.append_nil
abbrev bP:=@congrArg
abbrev b3:=@List.map_cons
abbrev b4:=@Nat.ne_of_lt
abbrev b5:=@List.length_range
abbrev cn:=@List.length_filter_le
abbrev cm:=@List.all_eq_true
abbrev ck:=@List.mem_map
abbrev cq:=@Nat.pow_le_pow_right
abbrev cw:=@Nat.eq_of_testBit_eq
abbrev cE:=@List.filter_append
abbrev c6:=@PySem.wpAny_truthy_bool
abbrev cK:=@Nat.lt_irrefl
abbrev c9:=@List.range_succ
abbrev de:=@List.filter_cons_of_neg
abbrev da:=@List.filter_cons_of_pos
abbrev c_:=@List.append_assoc
abbrev dr:=@List.reverse_reverse
abbrev dP:=@Classical.byContradiction
abbrev df:=@PySem.wpAny_mono
abbrev dQ:=@PySem.wpAny_loadPart'
abbrev dA:=@List.length_drop
abbrev dE:=@Bool.and_eq_true
abbrev d_:=@List.length_replicate
abbrev ee:=@Int.natCast_nonneg
abbrev ek:=@PySem.wpAny_Call_Name_kw
abbrev eh:=@PySem.W.mg_none_of
abbrev ez:=@List.lookup_cons
abbrev eA:=@List.cons_ne_nil
abbrev eI:=@List.mem_range
abbrev fg:=@PySem.wpAny_newObj_type
abbrev eJ:=@Nat.lt_of_succ_lt
abbrev fe:=@List.take_of_length_le
abbrev eD:=@List.map_map
abbrev e_:=@Nat.add_le_add_left
abbrev eR:=@List.nodup_cons
abbrev eS:=@List.foldl_cons
abbrev eP:=@PySem.W.mg_of
abbrev fo:=@List.mem_filterMap
abbrev fi:=@List.countP_cons
abbrev fh:=@Nat.zero_testBit
abbrev fk:=@List.mem_replicate
abbrev fI:=@PyProof.Rows.int_text_len_1921
abbrev fw:=@List.flatMap_cons
abbrev fv:=@PySem.call_meets
abbrev ft:=@Nat.testBit_xor
abbrev f_:=@PyProof.Rows.callWith_type1
abbrev fT:=@List.length_pos_of_mem
abbrev fz:=@Int.zero_add
abbrev f':=@PySem.F.plain_min_loop
abbrev hU:=@PySem.F.slot_tuple_iterator_next
abbrev fN:=@Nat.testBit_or
abbrev gL:=@PySem.StrLaws.glued_eq_join
abbrev gT:=@List.drop_eq_getElem_cons
abbrev gv:=@PySem.wpAny_passesOwn
abbrev fS:=@Nat.pow_succ
abbrev gy:=@List.dropLast_concat
abbrev gx:=@Nat.mul_le_mul_right
abbrev gE:=@PySem.strLen_append
abbrev i4:=@PyProof.Rows.slot_tuple_getitem
abbrev gX:=@beq_eq_false_iff_ne
abbrev g0:=@List.replicate_succ
abbrev gS:=@List.cons_append
abbrev gN:=@List.getElem_mem
abbrev i3:=@PySem.wpAny_pyIter_tuple
abbrev iF:=@Nat.testBit_lt_two_pow
abbrev ip:=@Nat.one_le_two_pow
abbrev ia:=@List.mem_filter
abbrev iO:=@PySem.wpAny_execs_nil
abbrev iN:=@PySem.wpAny_ite_false
abbrev h_:=@Nat.testBit_and
abbrev ib:=@List.filter_nil
abbrev ij:=@PySem.W.kia_one
abbrev hW:=@Bool.true_and
abbrev i6:=@List.length_singleton
abbrev ki:=@PySem.StrLaws.strSub_toList
abbrev iL:=@Bool.eq_false_iff
abbrev jS:=@PySem.StrLaws.subAt_one
abbrev ky:=@Nat.testBit_two_pow_sub_one
abbrev j':=@PySem.Heap.size_push
abbrev i5:=@PySem.wpAny_field
abbrev kR:=@List.dropWhile_cons_of_neg
abbrev kP:=@List.takeWhile_cons_of_pos
abbrev kx:=@PySem.wpAny_call_entry
abbrev kl:=@List.reverse_append
abbrev md:=@Option.isSome_iff_exists
abbrev js:=@List.all_cons
abbrev ja:=@List.any_cons
abbrev me:=@List.idxOf_lt_length_iff
abbrev kf:=@Bool.eq_iff_iff
abbrev i':=@beq_iff_eq
abbrev kM:=@Nat.lt_of_le_of_lt
abbrev mS:=@Nat.toDigits_of_lt_base
abbrev kA:=@Nat.le_of_lt
abbrev i_:=@if_true
abbrev qa:=@PySem.Calls.callWith_builtin
abbrev lP:=@List.flatten_cons
abbrev kz:=@Nat.mul_comm
abbrev ly:=@Nat.lt_succ_of_lt
abbrev nI:=@PySem.wpAny_pyIter_enum
abbrev pd:=@PyProof.Rows.joinParts_cons
abbrev mE:=@PySem.wpAny_seqItems
abbrev mB:=@PySem.wpAny_tryCatch
abbrev lI:=@List.foldl_append
abbrev si:=@PySem.builtinLookup_eq_fast
abbrev oj:=@PyProof.Rows.split_le
abbrev om:=@Nat.div_lt_iff_lt_mul
abbrev mT:=@Nat.lt_succ_self
abbrev mI:=@PySem.typeIs_str
abbrev mP:=@beq_self_eq_true
abbrev m4:=@List.any_eq_true
abbrev m3:=@List.filter_cons
abbrev xw:=@Int.mul_le_mul_of_nonneg_right
abbrev uk:=@PySem.Calls.evalArgs_plain
abbrev x8:=@List.eq_nil_of_length_eq_zero
abbrev uu:=@PySem.Around.under_plainId
abbrev oB:=@List.mem_of_mem_take
abbrev qr:=@PySem.F.slot_int_rmul
abbrev nK:=@Option.map_some
abbrev nN:=@List.length_nil
abbrev nS:=@Int.natCast_mul
abbrev nL:=@Nat.div_add_mod
abbrev Bn:=@List.dropLast_concat_getLast
abbrev p9:=@List.filterMap_cons
abbrev pV:=@List.map_congr_left
abbrev px:=@ne_true_of_eq_false
abbrev p_:=@List.dropWhile_cons
abbrev pS:=@List.map_eq_nil_iff
abbrev pz:=@PySem.codeAny_mono
abbrev pE:=@PySem.W.callWith_K
abbrev nt:=@Int.lt_or_le
abbrev EO:=@Int.fdiv_eq_ediv_of_nonneg
abbrev mM:=@if_false
abbrev oP:=@Bool.and_false
abbrev sk:=@Bool.false_eq_true
abbrev BA:=@PySem.F.args_str_split_2
abbrev EK:=@List.takeWhile_cons_of_neg
abbrev EI:=@Nat.testBit_two_pow_add_gt
abbrev EJ:=@Nat.testBit_two_pow_add_eq
abbrev sj:=@Int.natAbs_natCast
abbrev EL:=@List.nodup_iff_pairwise_ne
abbrev oI:=@Int.natAbs_neg
abbrev sh:=@decide_eq_true_iff
abbrev t5:=@PySem.intItems_at
abbrev ER:=@PySem.F.entry_str_split
abbrev t_:=@Option.bind_assoc
abbrev x3:=@PySem.wpAny_holding
abbrev x6:=@PySem.nums_intItems
abbrev x4:=@PySem.plainId_quiet
abbrev qA:=@Bool.and_true
abbrev xy:=@Array.toList_inj
abbrev t4:=@PySem.numAt_eq
abbrev xv:=@List.flatMap_nil
abbrev xo:=@Nat.succ_le_succ
abbrev xp:=@Nat.mod_eq_of_lt
abbrev xt:=@List.isEmpty_iff
abbrev ua:=@Nat.le_of_eq
abbrev ui:=@List.map_nil
abbrev AY:=@PySem.typeIs_int
abbrev uj:=@List.all_map
abbrev ub:=@Nat.add_zero
abbrev A_:=@List.of_mem_zip
abbrev Bi:=@List.nil_append
abbrev AZ:=@Nat.min_eq_left
abbrev A':=@List.sum_append
abbrev Bz:=@Int.natCast_add
abbrev ES:=@Bool.false_and
abbrev EN:=@List.drop_zero
abbrev EM:=@List.foldl_nil
theorem dk{p:Prop}[Decidable p](h:decide p=true:=by decide +kernel):p:=of_decide_eq_true h
theorem oo{p:Prop}(h:p:=by first|lia|omega):p:=h
theorem odz{p:Prop}(h:p:=by decide):p:=h
theorem oz{p:Prop}(h:p:=by simp):p:=h
theorem kr{p:Prop}(h:p:=by kernel_rfl):p:=h
theorem obz{p:Prop}(h:p:=by first|exact Nat.le_of_ble_eq_true rfl|simp):p:=h
theorem ou{p:Prop}(h:p:=by with_unfolding_all rfl):p:=h
theorem so{p:Prop}(h:p:=by show 1<=PySem.sizeLine;decide):p:=h
theorem xB{p:Prop}(h:p:=by show 2<=PySem.sizeLine;decide):p:=h
theorem BM{p:Prop}(h:p:=by first|exact Or.inl rfl|exact Or.inr rfl):p:=h
theorem Z{α:Sort _}{a:α}:a=a:=rfl
abbrev cS:=@decide_eq_true
abbrev en:=@of_decide_eq_true
abbrev gp:=@decide_eq_false
abbrev bq:=@if_neg
abbrev b6:=@if_pos
abbrev gc:=@Bool.false_ne_true
abbrev qms:=@List.mem_cons_self
abbrev k8:=@List.mem_cons_of_mem
abbrev fA:=@Nat.le_trans
abbrev qh:=@List.mem_of_getElem?
abbrev sN:=@List.mem_append_left
abbrev m_:=@List.mem_append_right
abbrev iE:=@Option.some.inj
abbrev Ap:=@Int.emod_nonneg
abbrev BG:=@Int.emod_lt_of_pos
abbrev HE:=@Nat.le_of_ble_eq_true
abbrev qnr:=@Nat.le_refl
abbrev mf:=@Nat.zero_le
abbrev dS:=@List.length_map
abbrev kT:=@List.getElem?_map
abbrev pj:=@List.take_add_one
namespace L2
open PySem PySem.Spec PyProof.Rows
end L2
variable{p pos pos' tpos apos fq:PySem.Pos}{a b it f C dx sl np c0 bl:PySem.Addr}{us vs ds bm:List PySem.Value}{u cd doc pm g9 ct oc vl vu a0 dc:PySem.Value}{h h' h1 h2 base:PySem.Heap}{its:Array PySem.Value}{P prog q P0:PySem.Program}{w:PySem.World}{x name m qual kd:PySem.Str}{e tg iter value elt:PySem.Expr}{pins:List (PySem.Addr×PySem.Obj)}{s s' s1 s2 z:PySem.Shared}{t' i j c n sd:Nat}{ch fp:List PySem.Addr}{N ys ns ps ws loose N' ss:List PySem.Str}{M lo B lean first:Int}{A:PySem.Around}{E Q EE:PySem.Value->PySem.Shared->Prop}{R:PySem.Result->PySem.Shared->Prop}{K:PySem.W.Frag}{st:PySem.Stmt}{es ifs elts:List PySem.Expr}{body:List PySem.Stmt}{hi:Option Int}{mA mg:PySem.Str->Option PySem.Value}{kw:List (PySem.Str×PySem.Value)}{env:PySem.Env}{fd:PySem.FuncData}{outer:List PySem.Env}{sc scope:PySem.Scope}{an od:Option PySem.Addr}{HG:Array (Option PySem.Value)}{YP:PySem.World->PySem.Heap->Prop}{ix:List (Option Nat)}{newId:String}{rs:List Int}{cs:List Nat}
namespace L2
open PySem PySem.Spec PyProof.Rows
abbrev Key:=Sum Int Str
def mL:Key->Value->Bool
 | .inl k,v=>Value.isInt k v
 | .inr x,v=>Value.isStrOf x v
def Pr(w:World):Key->Int
 | .inl k=>hashInt k
 | .inr x=>hashStr w x
theorem cN:∀{k:Key}{v:Value},mL k v=true->(∃ i t,k=Sum.inl i/\v=Value.int i t)\/(∃ x t,k=Sum.inr x/\v=Value.str x t)
 | .inl i,v,h=>by
  obtain⟨t,e⟩:=Value.isInt_shape (k:=i) (v:=v) h;exact .inl ⟨i,t,rfl,e⟩
 | .inr x,v,h=>by
  obtain⟨t,e⟩:=Value.isStrOf_shape (x:=x) (v:=v) h;exact .inr ⟨x,t,rfl,e⟩
theorem Cy(i:Int)(t:Tok):mL (.inl i) (.int i t)=true:=by simp[mL,Value.isInt]
theorem Cz(x:Str)(t:Tok):mL (.inr x) (.str x t)=true:=by simp[mL,Value.isStrOf]
theorem Lq(a b:Int):decide ((Sum.inl a:Key)=Sum.inl b)=(a==b):=by
 by_cases e:a=b
 ·subst e;simp
 have h:¬(Sum.inl a:Key)=Sum.inl b:=fun q=>e (Sum.inl.inj q)
 rw[gp h];exact(gX.mpr e).symm
theorem Lr(a b:Str):decide ((Sum.inr a:Key)=Sum.inr b)=decide (a=b):=by
 by_cases e:a=b
 ·subst e;simp
 have h:¬(Sum.inr a:Key)=Sum.inr b:=fun q=>e (Sum.inr.inj q)
 rw[gp h,gp e]
theorem Ls(a:Int)(b:Str):decide ((Sum.inl a:Key)=Sum.inr b)=false:=gp (fun q=>nomatch q)
theorem Lw(a:Str)(b:Int):decide ((Sum.inr a:Key)=Sum.inl b)=false:=gp (fun q=>nomatch q)
def bL(prog:Program)(w:World):PySem.KeyKind prog w Key where
 is:=mL
 hash:=Pr w
 inj := fun v a b ha hb=>by
  rcases cN ha with⟨i,t,rfl,rfl⟩|⟨x,t,rfl,rfl⟩
  ·rcases cN hb with⟨j,u,rfl,e⟩|⟨y,u,rfl,e⟩
   ·injection e with e1 _;rw[e1]
   exact nomatch e
  rcases cN hb with⟨j,u,rfl,e⟩|⟨y,u,rfl,e⟩
  ·exact nomatch e
  injection e with e1 _;rw[e1]
 byValue:=fun k v h=>by
  rcases cN h with⟨i,t,rfl,rfl⟩|⟨x,t,rfl,rfl⟩<;>rfl
 pyHash:=fun hv h=>by
  rcases cN hv with⟨i,t,rfl,rfl⟩|⟨x,t,rfl,rfl⟩
  ·exact wpAny_pyHash_int h
  exact wpAny_pyHash_str h
 eqBool:=fun hu hv h=>by
  rcases cN hu with⟨i,t,rfl,rfl⟩|⟨x,t,rfl,rfl⟩
  ·rcases cN hv with⟨j,u,rfl,rfl⟩|⟨y,u,rfl,rfl⟩
   ·rw[Lq]at h;exact wpAny_eqBool_int h
   rw[Ls]at h;exact SeqAt.EqAt.int_str i t y u _ _ _ _ h
  rcases cN hv with⟨j,u,rfl,rfl⟩|⟨y,u,rfl,rfl⟩
  ·rw[Lw]at h;exact SeqAt.EqAt.str_int x t j u _ _ _ _ h
  rw[Lr]at h;exact wpAny_eqBool_str h
 «strs»:=fun k x t v h=>by
  rcases cN h with⟨i,u,rfl,e⟩|⟨y,u,rfl,e⟩
  ·exact nomatch e
  injection e with e1 _
  subst e1;cases v<;>rfl
theorem qi(prog:Program)(w:World)(i:Int)(t:Tok):(bL prog w).is (.inl i) (.int i t)=true:=Cy i t
theorem qj(prog:Program)(w:World)(x:Str)(t:Tok):(bL prog w).is (.inr x) (.str x t)=true:=Cz x t
inductive V where
 |non|bl (b:Bool)|int (i:Int)|str (x:Str)|byt (b:Array UInt8)|flt (b:UInt64)|ref (a:Addr)|ty (n:String)
 deriving DecidableEq
end L2
variable{xs dvs mv bv ms:List L2.V}{v y:L2.V}{kvs:List (L2.Key×L2.V)}
namespace L2
open PySem PySem.Spec PyProof.Rows
def RelV:V->Value->Prop
 | .non,u=>u=Value.none
 | .bl b,u=>u=Value.bool b
 | .int i,u=>∃ t,u=Value.int i t
 | .str x,u=>∃ t,u=Value.str x t
 | .byt b,u=>∃ t,u=Value.bytes b t
 | .flt b,u=>∃ t,u=Value.float b t
 | .ref a,u=>u=Value.ref a
 | .ty n,u=>u=Value.type n
abbrev Vals:List V->List Value->Prop:=Paired RelV
theorem Vals.length{xs:List V}{us:List Value}(r:Vals xs us):xs.length=us.length:=bg r
theorem Vals.get:∀{xs:List V}{us:List Value}{i:Nat}{x:V},Vals xs us->xs[i]?=some x->∃ u,us[i]?=some u/\RelV x u
 |_,_,_,_,.nil,e=>by simp at e
 |_,_,0,_,.cons r _,e=>by simp at e;subst e;exact⟨_,Z,r⟩
 | _,_,i+1,x,.cons _ t,e=>by
  obtain⟨u,h1,h2⟩:=Vals.get (i:=i) (x:=x) t (by simpa using e);exact⟨u,by simpa using h1,h2⟩
theorem Vals.append:∀{xs ys:List V}{us ws:List Value},Vals xs us->Vals ys ws->Vals (xs++ys) (us++ws)
 |_,_,_,_,.nil,s=>s
 |_,_,_,_,.cons r t,s=>.cons r (Vals.append t s)
theorem Vals.take:∀{xs:List V}{us:List Value}(n:Nat),Vals xs us->Vals (xs.take n) (us.take n)
 |_,_,0,_=>.nil
 |_,_,_+1,.nil=>.nil
 |_,_,n+1,.cons r t=>.cons r (Vals.take n t)
theorem Vals.drop:∀{xs:List V}{us:List Value}(n:Nat),Vals xs us->Vals (xs.drop n) (us.drop n)
 |_,_,0,r=>r
 |_,_,_+1,.nil=>.nil
 |_,_,n+1,.cons _ t=>Vals.drop n t
def kq:Option V->Option Value->Prop
 |some v,some u=>RelV v u
 |none,none=>True
 |_,_=>False
def KV{κ:Type}:List (κ×V)->List (κ×Value)->Prop:=Paired fun(p:κ×V)(q:κ×Value)=>p.1=q.1/\RelV p.2 q.2
def kV:Key->V
 | .inl i=>.int i
 | .inr x=>.str x
inductive HO where
  |lst (xs:List V)
  |tup (xs:List V)
  |dK (kvs:List (Key×V))|dT (kvs:List (List Key×V))
  |set (S:Int->Bool) (n:Nat)
  |ins (C dx:Addr) (fs:List (Str×V))
  |own (x:Addr)
  |xd (fs:List (Str×V))
  |met (f x:Addr)
  |oq (lo hi:Int)
  |rX (o:Obj) (u:HO)
  |BB (ps:Array Value)
  |ext (φ:Heap->Prop)
abbrev Hp:=Addr->Option HO
end L2
variable{H H' H1 H2 Q6:L2.Hp}{o o':L2.HO}
namespace L2
open PySem PySem.Spec PyProof.Rows
def upd(H:Hp)(a:Addr)(o:HO):Hp:=fun b=>if b=a then some o else H b
theorem au:upd H a o a=some o:=by unfold upd;rw[b6 rfl]
theorem aG(h:b≠a):upd H a o b=H b:=by unfold upd;rw[bq h]
theorem pQ{u:HO}:upd (upd H a o) a u=upd H a u:=by
 funext b;unfold upd;split<;>rfl
theorem bF{u:HO}(h:H a=some o)(h':H b=some u)(d:o≠u:=by intro z;cases z):a≠b:=by
 intro e;subst e;rw[h]at h';exact d (iE h')
theorem aK(h:H a=some o)(h':H b=none):a≠b:=by
 intro e;subst e;rw[h]at h';cases h'
def iA(h:Heap)(a:Addr)(its:Array Value):Prop:=∃ o,h.get? a=some o/\o.cls=.type "tuple"/\∃ n,(o.data,o.dict)=(Data.seq its n,none)
theorem iA.tup{h:Heap}{a:Addr}{its:Array Value}(x:iA h a its):IsTup h a its:=let ⟨o,e,c,n,d⟩:=x;⟨o,e,c,n,bP Prod.fst d⟩
theorem iA.new(h:Heap)(its:Array Value):iA (h.push { cls:=.type "tuple",data:=.seq its }) h.objs.size its:=⟨_,Heap.get?_push_size _ rfl,rfl,_,rfl⟩
section
variable(P:Program)(w:World)
def eM(H:Hp)(h:Heap)(a:Addr):HO->Prop
 | .lst xs=>xs.length<=sizeLine/\∃(its:List Value) (n:Nat),Vals xs its/\h.get? a=some { cls:=.type "list",data:=.seq its.toArray n }
 | .tup xs=>xs.length<=sizeLine/\∃ its:List Value,Vals xs its/\iA h a its.toArray
 | .dK kvs=>kvs.length<=sizeLine/\(a==sysModules)=false/\∃ vs,KV kvs vs/\h.DictOf (bL P w) a vs
 | .dT kvs=>kvs.length<=sizeLine/\(a==sysModules)=false/\∃ xs:List (List Key×Addr×Value),
   Paired (fun(p:List Key×V)(q:List Key×Addr×Value)=>p.1=q.1/\H q.2.1=some (.tup (p.1.map kV))/\RelV p.2 q.2.2) kvs xs /\
   ∃ o es ep,h.get? a=some o/\o.ExactDict/\o.data=.dict es ep/\es.toList=xs.map (entryOfKey (tupleKind (bL P w)))/\(xs.map (·.1)).Nodup
 | .set S n=>h.SetOf (intKind P w) a S n
 | .ins C dx fs=>H dx=some (.own a)/\fs.length<=1000/\dx≠a/\h.get? a=some (W.instObj C dx) /\
   ∃ mA,h.Ns1 dx mA/\(∀ f,kq (fs.lookup f) (mA f))/\PySem.Within mA (fs.map (·.1))
 | .own _=>∃ o,h.get? a=some o
 | .xd fs=>∃ mA,h.Ns1 a mA/\∀ f,kq (fs.lookup f) (mA f)
 | .oq lo hi=>∃ t u v,h.get? a=some { cls:=.type "range",data:=.fields #[.int lo t,.int hi u,.int 1 v] }
 | .rX o u=>h.get? a=some o/\eM H h a u
 | .BB ps=>h.get? a=some { cls:=.none,data:=.fields ps }
 | .met f x=>h.get? a=some (W.methodObj (.ref f) (.ref x))
 | .ext φ=>φ h/\(∃ o,h.get? a=some o)/\∀ h1 h2:Heap,φ h1->(∀ o,h1.get? a=some o->h2.get? a=some o)->φ h2
def kK(H:Hp)(h:Heap):Prop:=∀ a o,H a=some o->eM P w H h a o
end
theorem eM.lt(x:eM P w H h a o):a<h.objs.size:=by
 cases o with
 |lst xs=>obtain⟨_,_,_,_,e⟩:=x;exact ay e
 |tup xs=>obtain⟨_,_,_,p⟩:=x;exact p.tup.lt
 |dK kvs=>obtain⟨_,_,_,_,o,_,_,e,_⟩:=x;exact ay e
 |dT kvs=>obtain⟨_,_,_,_,o,_,_,e,_⟩:=x;exact ay e
 |set S n=>obtain⟨o,_,_,_,e,_⟩:=x;exact ay e
 |ins C dx fs=>obtain⟨_,_,_,e,_⟩:=x;exact ay e
 |own y=>obtain⟨_,e⟩:=x;exact ay e
 |xd fs=>obtain⟨_,⟨_,_,_,e,_⟩,_⟩:=x;exact ay e
 |oq lo hi=>obtain⟨_,_,_,e⟩:=x;exact ay e
 |rX ob u=>obtain⟨e,_⟩:=x;exact ay e
 |BB ps=>exact ay (show h.get? a=some _ from x)
 |met f y=>exact ay (show h.get? a=some _ from x)
 |ext φ=>obtain⟨_,⟨_,e⟩,_⟩:=x;exact ay e
theorem Paired.gV{α β:Type}{F G:α->β->Prop}:∀{l₁:List α}{l₂:List β},Paired F l₁ l₂->(∀ a b,F a b->G a b)->Paired G l₁ l₂
 |_,_,.nil,_=>.nil
 |_,_,.cons r t,f=>.cons (f _ _ r) (Paired.gV t f)
theorem eM.stay(x:eM P w H h a o)(k:∀ b u,(b=a\/H b=some (.own a))->h.get? b=some u->h'.get? b=some u)(ho:∀ b,H b=some (.own a)->H' b=some (.own a))(ht:∀ b xs,H b=some (.tup xs)->H' b=some (.tup xs)):eM P w H' h' a o:=by
 induction o with
 |lst xs=>obtain⟨z,its,n,r,e⟩:=x;exact⟨z,its,n,r,k _ _ (.inl rfl) e⟩
 |tup xs=>obtain⟨z,its,r,ob,e,c⟩:=x;exact⟨z,its,r,ob,k _ _ (.inl rfl) e,c⟩
 |dK kvs=>obtain⟨z,y,vs,r,ob,es,ep,e,c⟩:=x;exact⟨z,y,vs,r,ob,es,ep,k _ _ (.inl rfl) e,c⟩
 | dT kvs =>
  obtain⟨z,y,xs,r,ob,es,ep,e,c⟩:=x;exact⟨z,y,xs,Paired.gV r fun p q z=>⟨z.1,ht _ _ z.2.1,z.2.2⟩,ob,es,ep,k _ _ (.inl rfl) e,c⟩
 |set S n=>obtain⟨ob,es,ep,t,e,c⟩:=x;exact⟨ob,es,ep,t,k _ _ (.inl rfl) e,c⟩
 | ins C dx fs =>
  obtain⟨d,z,ne,e,mA,⟨od,es,ep,e2,c⟩,r⟩:=x;exact⟨ho _ d,z,ne,k _ _ (.inl rfl) e,mA,⟨od,es,ep,k _ _ (.inr d) e2,c⟩,r⟩
 |own y=>obtain⟨ob,e⟩:=x;exact⟨ob,k _ _ (.inl rfl) e⟩
 |xd fs=>obtain⟨mA,⟨od,es,ep,e,c⟩,r⟩:=x;exact⟨mA,⟨od,es,ep,k _ _ (.inl rfl) e,c⟩,r⟩
 |oq lo hi=>obtain⟨t,u,v,e⟩:=x;exact⟨t,u,v,k _ _ (.inl rfl) e⟩
 |rX ob u ih=>obtain⟨e,q⟩:=x;exact⟨k _ _ (.inl rfl) e,ih q⟩
 | BB ps =>
  have e:h.get? a=some { cls:=.none,data:=.fields ps }:=x;show h'.get? a=some { cls:=.none,data:=.fields ps };exact k a _ (.inl rfl) e
 | met f y =>
  have e:h.get? a=some (W.methodObj (.ref f) (.ref y)):=x;show h'.get? a=some (W.methodObj (.ref f) (.ref y));exact k a _ (.inl rfl) e
 |ext φ=>obtain⟨p,⟨o,e⟩,st⟩:=x;exact⟨st _ _ p fun o q=>k _ _ (.inl rfl) q,⟨o,k _ _ (.inl rfl) e⟩,st⟩
theorem kK.lt(x:kK P w H h)(e:H a=some o):a<h.objs.size:=(x a o e).lt
theorem kK.fresh(x:kK P w H h)(e:h.objs.size<=a):H a=none:=by
 cases q:H a with
 |none=>rfl
 |some u=>exact absurd (a_ (x.lt q) e) (cK _)
theorem kK.kept(x:kK P w H h)(k:∀ b u,h.get? b=some u->h'.get? b=some u):kK P w H h':=fun a o e =>
 (x a o e).stay (fun b u _ q=>k b u q) (fun _ q=>q) fun _ _ q=>q
theorem kK.laid(x:kK P w H h)(k:∀ b u,h.get? b=some u->h'.get? b=some u)(hp:h.objs.size<=a)(new:eM P w (upd H a o) h' a o):kK P w (upd H a o) h':=fun b u e=>by
 have hn:=x.fresh hp
 by_cases hb:b=a
 ·subst hb;rw[au]at e;cases e;exact new
 rw[aG hb]at e;exact(x b u e).stay (fun c v _ q=>k c v q) (fun c q=>by rw[aG (aK q hn)];exact q) fun c xs q=>by rw[aG (aK q hn)];exact q
def Rd(H:Hp)(a:Addr)(u:HO):Prop:=H a=some u\/∃ o,H a=some (.rX o u)
theorem Rd.ok{u:HO}(r:Rd H a u)(x:kK P w H h):eM P w H h a u:=by
 rcases r with r|⟨o,r⟩
 ·exact x a u r
 obtain⟨_,q⟩:=x a _ r;exact q
def Pm:Option HO->Prop
 |some (.lst _)=>True
 |some (.dK _)=>True
 |some (.dT _)=>True
 |some (.set _ _)=>True
 |some (.ins _ _ _)=>True
 |some (.ext _)=>True
 |_=>False
section
variable{x e:Addr}
theorem kK.write(ok:kK P w H h)(mu:Pm (H x))(he:e=x\/H e=some (.own x))(k:∀ b u,b≠e->h.get? b=some u->h'.get? b=some u)(K_:∃ u,h'.get? e=some u)(new:eM P w (upd H x o') h' x o'):kK P w (upd H x o') h':=fun b u q=>by
 have L_:∀ c y,H c=some (.own y)->c≠x:=fun c y r z=>by subst z;rw[r]at mu;exact mu
 have Rx:∀ c xs,H c=some (.tup xs)->c≠x:=fun c xs r z=>by subst z;rw[r]at mu;exact mu
 by_cases hb:b=x
 ·subst hb;rw[au]at q;cases q;exact new
 rw[aG hb]at q
 by_cases IU:b=e
 ·have q':H b=some (.own x):=by
   rcases he with z|z
   ·exact absurd (IU.trans z) hb
   rw[IU];exact z
  rw[q]at q';cases q';obtain⟨v,hv⟩:=K_;exact⟨v,by rw[IU];exact hv⟩
 refine(ok b u q).stay (fun c v hc r=>k c v ?_ r) (fun c r=>by rw[aG (L_ c b r)];exact r) fun c xs r=>by rw[aG (Rx c xs r)];exact r
 rcases hc with rfl|hc
 ·exact IU
 rintro rfl;rcases he with z|z
 ·exact L_ c b hc z
 rw[hc]at z;cases z;exact hb rfl
end
structure Un(fs ex:List Addr)(H H':Hp)(h h':Heap):Prop where
 keep:∀ b o,h.get? b=some o->H b=none->b∉fs->b∉ex->h'.get? b=some o
 slot:∀ b o,h.get? b=some o->H b=none->b∈fs->b∉ex->∃ sl,h'.get? b=some { o with slots:=sl }
 free:∀ b o,h.get? b=some o->H b=none->b∉ex->H' b=none
 there:∀ b o,h.get? b=some o->b∉ex->∃ o',h'.get? b=some o'
 b9:∀ b xs,H b=some (.tup xs)->H' b=some (.tup xs)
 kL:∀ b o u,H b=some (.rX o u)->H' b=some (.rX o u)
 kX:∀ b ps,H b=some (.BB ps)->∃ more,H' b=some (.BB (ps++more))
section
variable{fs fs' ex ex':List Addr}{x e:Addr}
theorem Un.any(u:Un fs ex H H1 h h1){ob:Obj}(q:h.get? b=some ob)(n:H b=none)(hx:b∉ex):∃ sl,h1.get? b=some { ob with slots:=sl }:=by
 by_cases hb:b∈fs
 ·exact u.slot b ob q n hb hx
 exact⟨ob.slots,u.keep b ob q n hb hx⟩
theorem Un.kept(k:∀ b u,h.get? b=some u->h'.get? b=some u):Un fs ex H H h h' :=
 ⟨fun b ob q _ _ _=>k b ob q,fun b ob q _ _ _=>⟨ob.slots,k b ob q⟩,fun _ _ _ n _=>n,fun b ob q _=>⟨ob,k b ob q⟩,fun _ _ q=>q,fun _ _ _ q=>q,fun _ ps q=>⟨#[],by rw[q];simp⟩⟩
theorem Un.refl:Un fs ex H H h h:=Un.kept fun _ _ q=>q
theorem Un.laid(k:∀ b u,h.get? b=some u->h'.get? b=some u)(hp:h.objs.size<=a)(hn:H a=none):Un fs ex H (upd H a o) h h' where
 keep:=fun b u q _ _ _=>k b u q
 slot:=fun b u q _ _ _=>⟨u.slots,k b u q⟩
 free:=fun b u q n _=>by rw[aG (b4 (a_ (ay q) hp))];exact n
 there:=fun b u q _=>⟨u,k b u q⟩
 b9:=fun b xs q=>by rw[aG (aK q hn)];exact q
 kL:=fun b u xs q=>by rw[aG (aK q hn)];exact q
 kX:=fun b ps q=>⟨#[],by rw[aG (aK q hn),q];simp⟩
theorem Un.write(mu:Pm (H x))(he:e=x\/H e=some (.own x))(k:∀ b u,b≠e->h.get? b=some u->h'.get? b=some u)(K_:∃ u,h'.get? e=some u):Un fs ex H (upd H x o) h h':=by
 have hx:∀ b,H b=none->b≠x:=fun b n z=>by subst z;rw[n]at mu;exact mu
 have hb:∀ b,H b=none->b≠e:=fun b n z=>by
  subst z;rcases he with r|r
  ·exact hx b n r
  rw[n]at r;cases r
 have hm:∀ b u,H b=some u->¬Pm (some u)->b≠x:=fun b u q nm z=>by subst z;rw[q]at mu;exact nm mu
 refine⟨fun b u q n _ _=>k b u (hb b n) q,fun b u q n _ _=>⟨u.slots,k b u (hb b n) q⟩,fun b u q n _=>by rw[aG (hx b n)];exact n,fun b u q _=>?_,
  fun b xs q=>by rw[aG (hm b _ q fun z=>z)];exact q,fun b u xs q=>by rw[aG (hm b _ q fun z=>z)];exact q,fun b ps q=>⟨#[],by rw[aG (hm b _ q fun z=>z),q];simp⟩⟩
 by_cases IU:b=e
 ·subst IU;exact K_
 exact⟨u,k b u IU q⟩
end
def Cc(h:Heap)(H:Hp):List Addr:=(List.range h.objs.size).filter fun a=>(H a).isSome
def mO(h:Heap)(H:Hp):Heap:=W.hideAll h (Cc h H)
theorem CG(h:Heap)(H:Hp):(mO h H).objs.size=h.objs.size:=W.hideAll_size _ _
theorem Gi{o:Obj}(e:h.get? b=some o)(n:H b=none):(mO h H).get? b=some o :=
 W.hideAll_get _ e fun hm=>by
  have q:(H b).isSome=true:=(ia.mp hm).2;rw[n]at q;simp at q
theorem JQ{o:Obj}(e:(mO h H).get? b=some o):h.get? b=some o/\H b=none:=by
 have e':h.get? b=some o:=W.of_hideAll (Cc h H) e;refine⟨e',?_⟩;cases q:H b with
 |none=>rfl
 | some x =>
  have hm:b∈Cc h H:=ia.mpr ⟨eI.mpr (ay e'),by simp[q]⟩;have z:(mO h H).get? b=none:=W.hideAll_none (Cc h H) hm;rw[z]at e;cases e
structure Mod(K:W.Frag)(mg:Str->Option Value)(base:Heap):Prop where
 E5:K.In base
 glob:base.Ns mainGlobals mg
 blt:∃ mb,base.Ns builtinsNs mb/\∀ x:Str,x≠"__name__"->mb x=bootBuiltins x
 nolimit:base.NoLimit
structure Cx where
 prog:Program
 w:World
 K:W.Frag
 mg:Str->Option Value
 base:Heap
 A:Around
 N:List Str
 s₀:Shared
 H₀:Hp
 env:Env
 outer:List Env
 stack:List Env
 ex:List Addr
 fn:Str->Bool
 calm:Bool
 pn:List (Addr×Obj)
 xe:Value->Shared->Prop
end L2
variable{X:L2.Cx}
namespace L2
open PySem PySem.Spec PyProof.Rows
def iq(l:List Env):List Addr:=l.filterMap (·.frame)
abbrev Cx.fs(X:Cx):List Addr:=iq X.outer
def O_(sc:Scope)(x:Str):Prop:=sc.names.lookup x=some .local \/ sc.names.lookup x=some .cell \/ sc.names.lookup x=some .free
def Loc(sc:Scope)(x:Str):Prop:=sc.names.lookup x=some .local \/ sc.names.lookup x=some .cell
def Look(env:Env)(h:Heap)(m:Str->Option Value)(x:Str)(u:Value):Prop :=
 (env.kindOf x=some .local /\ m x=some u)\/((env.kindOf x=some .cell \/ env.kindOf x=some .free)/\∃ c,env.cells.lookup x=some c/\h.IsCell c (some u))
structure Cx.Ok(X:Cx):Prop where
 mod:Mod X.K X.mg X.base
 kind:X.env.scope.kind=.function
 glob:X.env.globals=mainGlobals
 blt:X.env.builtins=builtinsNs
 above:X.s₀.heap.objs.size<=X.env.locals
 inj:∀ x y c,X.env.cells.lookup x=some c->X.env.cells.lookup y=some c->x=y
 has:∀ x,(X.env.kindOf x=some .cell \/ X.env.kindOf x=some .free)->∃ c,X.env.cells.lookup x=some c
 JJ:∀ x c,X.fn x=true->X.env.cells.lookup x=some c->X.s₀.heap.objs.size<=c
 hd:X.calm=true->X.A.handled=none
 frames:X.A.frames=some X.stack
 Kk:X.stack=X.outer\/(X.stack=X.env::X.outer/\X.env.frame=some X.env.locals)
 QT:∀ b∈X.ex,b≠X.env.locals/\∀ x c,X.env.cells.lookup x=some c->c≠b
 bs:∀ b o,X.base.get? b=some o->X.s₀.heap.get? b=some o/\X.H₀ b=none
 AV:X.base.objs.size<=X.s₀.heap.objs.size
 sP:∀ b o,X.base.get? b=some o->b∉X.ex
 xi:∀ b∈X.ex,b∉X.fs
 l8:X.s₀.heap.FunFrames X.base X.outer
 EC:∀ b∈X.fs,X.H₀ b=none
structure Inv(X:Cx)(pins:List (Addr×Obj))(σ:List (Option V))(H:Hp)(s:Shared):Prop where
 ok:X.Ok
 os:s.os=X.s₀.os
 bare:AllBare s.gens
 base:Un X.fs X.ex X.H₀ H X.s₀.heap s.heap
 loc:∃ m,s.heap.Ns X.env.locals m/\∀(i:Nat)(x:Str)(v:V),X.N[i]?=some x->σ[i]?=some (some v)->O_ X.env.scope x->∃ u,RelV v u/\Look X.env s.heap m x u
 cell:∀ x c,X.env.cells.lookup x=some c->∃ v,s.heap.IsCell c v
 free:H X.env.locals=none
 i8:∀ x c,X.env.cells.lookup x=some c->H c=none
 pin:∀ p∈X.pn++pins,s.heap.get? p.1=some p.2/\H p.1=none/\p.1≠X.env.locals/\p.1∉X.fs/\∀ v,p.2.data≠.cell v
 hok:kK X.prog X.w H s.heap
 len:σ.length=X.N.length
section
variable{σ:List (Option V)}
theorem Cx.Ok.RC(ok:X.Ok){o:Obj}(e:X.base.get? b=some o):b∉X.fs:=fun hb=>by
 have:=(ok.l8.mem hb).1;rw[e]at this;cases this
theorem Inv.bs(I:Inv X pins σ H s):∀ b o,X.base.get? b=some o->s.heap.get? b=some o/\H b=none:=fun b o e =>
 ⟨I.base.keep b o (I.ok.bs b o e).1 (I.ok.bs b o e).2 (I.ok.RC e) (I.ok.sP b o e),I.base.free b o (I.ok.bs b o e).1 (I.ok.bs b o e).2 (I.ok.sP b o e)⟩
theorem Inv.bk(I:Inv X pins σ H s):∀ b o,X.base.get? b=some o->s.heap.get? b=some o:=fun b o e=>(I.bs b o e).1
theorem Inv.mod(I:Inv X pins σ H s):Mod X.K X.mg X.base:=I.ok.mod
theorem Inv.kIn(I:Inv X pins σ H s):X.K.In s.heap:=I.ok.mod.E5.keeps I.bk
theorem Inv.fr(I:Inv X pins σ H s):∃ m,Fr X.base X.env.locals s.heap m :=
 let ⟨m,hn,_⟩:=I.loc
 ⟨m,hn,I.bk,fA I.ok.AV I.ok.above⟩
theorem Inv.lt(I:Inv X pins σ H s):X.env.locals<s.heap.objs.size:=let ⟨_,hn,_⟩:=I.loc;hn.lt
theorem Inv.sz(I:Inv X pins σ H s):X.s₀.heap.objs.size<=s.heap.objs.size:=fA I.ok.above (kA I.lt)
theorem Inv.RB(I:Inv X pins σ H s)(h:s.heap.objs.size<=a):a∉X.fs:=fun hb=>by
 obtain⟨_,o,ho,_⟩:=I.ok.l8.mem hb;exact absurd (a_ (ay ho) (fA I.sz h)) (cK _)
theorem Inv.JI(I:Inv X pins σ H s):∀ x c,X.env.cells.lookup x=some c->c≠X.env.locals:=fun x c e z=>by
 obtain⟨v,o,ho,hd⟩:=I.cell x c e;obtain⟨m,⟨o',es,ep,sR,rV,_⟩,_⟩:=I.loc;rw[z,sR]at ho;cases ho;rw[rV]at hd;cases hd
theorem Inv.l8(I:Inv X pins σ H s):s.heap.FunFrames X.base X.outer:=by
 have all:∀(l:List Env),(∀ b∈iq l,b∈X.fs)->X.s₀.heap.FunFrames X.base l->s.heap.FunFrames X.base l:=by
  intro l
  induction l with
  |nil=>intro _ _;trivial
  | cons env r ih =>
   intro hs hl;obtain⟨hk,⟨L,o,hf,hn,ho,hd⟩,hr⟩:=hl;have hL:L∈X.fs:=hs L (by unfold iq;rw[p9,hf];exact qms);obtain⟨sl,e⟩:=I.base.slot L o ho (I.ok.EC L hL) hL fun z=>I.ok.xi L z hL
   exact⟨hk,⟨L,_,hf,hn,e,hd⟩,ih (fun b hb=>hs b (by unfold iq;rw[p9,hf];exact k8 _ hb)) hr⟩
 exact all X.outer (fun _ hb=>hb) I.ok.l8
theorem Inv.stack(I:Inv X pins σ H s):s.heap.FunFrames X.base X.stack:=by
 rcases I.ok.Kk with e|⟨e,hf⟩
 ·rw[e];exact I.l8
 rw[e];obtain⟨m,hn,_⟩:=I.loc;refine .cons (by rw[I.ok.kind];decide) hf hn ?_ I.l8;exact Heap.get?_none_of_le (fA I.ok.AV I.ok.above)
theorem Inv.k6(I:Inv X pins σ H s):∀ b∈iq X.stack,b∈X.env.locals::X.fs:=fun b hb=>by
 rcases I.ok.Kk with e|⟨e,hf⟩
 ·rw[e]at hb;exact k8 _ hb
 rw[e]at hb;unfold iq at hb;rw[p9,hf]at hb;exact hb
theorem Inv.kD(I:Inv X pins σ H s):∀ b∈iq X.stack,H b=none:=fun b hb=>by
 rcases av.mp (I.k6 b hb)with e|hb
 ·rw[e];exact I.free
 obtain⟨_,o,ho,_⟩:=I.ok.l8.mem hb;exact I.base.free b o ho (I.ok.EC b hb) fun z=>I.ok.xi b z hb
theorem Inv.step{g':Array GenState}{d':Drawn}(I:Inv X pins σ H s)(BU:∀ b∈ch,(b∈X.ex\/X.s₀.heap.objs.size<=b)/\b≠X.env.locals/\(∀ x c,X.env.cells.lookup x=some c->c≠b)/\∀ p∈X.pn++pins,p.1≠b)(keep:∀ b o,b≠X.env.locals->b∉X.fs->b∉ch->s.heap.get? b=some o->H b=none->h'.get? b=some o)(slot:∀ b o,b≠X.env.locals->b∈X.fs->b∉ch->s.heap.get? b=some o->H b=none->∃ sl,h'.get? b=some { o with slots:=sl })(free:∀ b o,b∉ch->s.heap.get? b=some o->H b=none->H' b=none)(there:∀ b o,b∉ch->s.heap.get? b=some o->∃ o',h'.get? b=some o')(b9:∀ b xs,H b=some (.tup xs)->H' b=some (.tup xs))(kL:∀ b o u,H b=some (.rX o u)->H' b=some (.rX o u))(kX:∀ b ps,H b=some (.BB ps)->∃ more,H' b=some (.BB (ps++more)))(ns:∀ m,s.heap.Ns X.env.locals m->h'.Ns X.env.locals m)(hok:kK X.prog X.w H' h')(hg:AllBare g'): Inv X pins σ H' { s with heap:=h',gens:=g',drawn:=d',toks:=t' }:=by
 have U1:∀ b o,X.s₀.heap.get? b=some o->b≠X.env.locals:=fun b o e=>b4 (a_ (ay e) I.ok.above)
 have PY:∀ b o,X.s₀.heap.get? b=some o->b∉X.ex->b∉ch:=fun b o e hx hb=>by
  rcases(BU b hb).1 with z|z
  ·exact hx z
  exact absurd (a_ (ay e) z) (cK _)
 have cellK:∀ x c,X.env.cells.lookup x=some c->∀ v,s.heap.IsCell c v->h'.IsCell c v:=fun x c e v ⟨o,ho,hd⟩=>by
  have Me:c∉ch:=fun z=>(BU c z).2.2.1 x c e rfl
  by_cases hc:c∈X.fs
  ·obtain⟨sl,q⟩:=slot c o (I.JI x c e) hc Me ho (I.i8 x c e)
   exact⟨_,q,hd⟩
  exact⟨o,keep c o (I.JI x c e) hc Me ho (I.i8 x c e),hd⟩
 refine⟨I.ok,I.os,hg,⟨fun b o e n hb hx=>?_,fun b o e n hb hx=>?_,fun b o e n hx=>?_,fun b o e hx=>?_,fun b xs e=>b9 b xs (I.base.b9 b xs e),fun b o xs e=>kL b o xs (I.base.kL b o xs e),fun b ps e=>?_⟩,?_,fun x c e=>?_,?_,fun x c e=>?_,fun p hp=>?_,hok,I.len⟩
 ·exact keep b o (U1 b o e) hb (PY b o e hx) (I.base.keep b o e n hb hx) (I.base.free b o e n hx)
 ·obtain⟨sl,e1⟩:=I.base.slot b o e n hb hx
  obtain⟨GY,e2⟩:=slot b _ (U1 b o e) hb (PY b o e hx) e1 (I.base.free b o e n hx);exact⟨GY,e2⟩
 ·obtain⟨o',e1⟩:=I.base.there b o e hx
  exact free b o' (PY b o e hx) e1 (I.base.free b o e n hx)
 ·obtain⟨o',e1⟩:=I.base.there b o e hx
  exact there b o' (PY b o e hx) e1
 ·obtain⟨m1,e1⟩:=I.base.kX b ps e
  obtain⟨m2,e2⟩:=kX b _ e1;exact⟨m1++m2,by rw[e2,Array.append_assoc]⟩
 ·obtain⟨m,hn,hl⟩:=I.loc
  refine⟨m,ns m hn,fun i x v e1 e2 e3=>?_⟩;obtain⟨u,r,l⟩:=hl i x v e1 e2 e3;refine⟨u,r,?_⟩;rcases l with l|⟨k,c,e,z⟩
  ·exact .inl l
  exact .inr ⟨k,c,e,cellK x c e _ z⟩
 ·obtain⟨v,z⟩:=I.cell x c e
  exact⟨v,cellK x c e v z⟩
 ·obtain⟨m,⟨o,_,_,ho,_⟩,_⟩:=I.loc
  exact free _ o (fun z=>(BU _ z).2.1 rfl) ho I.free
 ·obtain⟨v,o,ho,hd⟩:=I.cell x c e
  exact free c o (fun z=>(BU c z).2.2.1 x c e rfl) ho (I.i8 x c e)
 obtain⟨e,n,ne,nf,d⟩:=I.pin p hp;have Me:p.1∉ch:=fun z=>(BU p.1 z).2.2.2 p hp rfl
 exact⟨keep p.1 p.2 ne nf Me e n,free p.1 p.2 Me e n,ne,nf,d⟩
theorem Inv.un(I:Inv X pins σ H s)(u:Un X.fs [] H H' s.heap h')(hok:kK X.prog X.w H' h'):Inv X pins σ H' { s with heap:=h',toks:=t' }:=by
 obtain⟨m,⟨o,es,ep,ho,r⟩,_⟩:=id I.loc;obtain⟨sl,hL⟩:=u.any ho I.free oz
 exact I.step (g':=s.gens) (d':=s.drawn) (ch:=[]) (fun _ z=>nomatch z) (fun b o _ hb _ e n=>u.keep b o e n hb oz) (fun b o _ hb _ e n=>u.slot b o e n hb oz) (fun b o _ e n=>u.free b o e n oz) (fun b o _ e=>u.there b o e oz) u.b9 u.kL u.kX (fun m' hm=>by
  obtain⟨o',Tg,Th,sR,r'⟩:=hm;rw[ho]at sR;cases sR
  exact⟨_,Tg,Th,hL,r'⟩) hok I.bare
theorem Inv.call{g':Array GenState}{d':Drawn}(I:Inv X pins σ H s)(u:Un (iq X.stack) ch H H' s.heap h')(hok:kK X.prog X.w H' h')(hg:AllBare g')(BU:∀ b∈ch,(b∈X.ex\/X.s₀.heap.objs.size<=b)/\b≠X.env.locals/\(∀ x c,X.env.cells.lookup x=some c->c≠b)/\∀ p∈X.pn++pins,p.1≠b): Inv X pins σ H' { s with heap:=h',gens:=g',drawn:=d',toks:=t' }:=by
 obtain⟨m,⟨o,es,ep,ho,r⟩,_⟩:=id I.loc;obtain⟨sl,hL⟩:=u.any ho I.free fun z=>(BU _ z).2.1 rfl
 exact I.step (ch:=ch) BU (fun b o hL hb hc e n=>u.keep b o e n (fun z=>(av.mp (I.k6 b z)).elim hL hb) hc) (fun b o _ _ hc e n=>u.any e n hc) (fun b o hc e n=>u.free b o e n hc) (fun b o hc e=>u.there b o e hc) u.b9 u.kL u.kX (fun m' hm=>by
  obtain⟨o',Tg,Th,sR,r'⟩:=hm;rw[ho]at sR;cases sR
  exact⟨_,Tg,Th,hL,r'⟩) hok hg
theorem Inv.turned(I:Inv X pins σ H s)(k:∀ b o,b≠it->s.heap.get? b=some o->h'.get? b=some o)(hn:H it=none)(hL:it≠X.env.locals)(h1:it∈X.ex\/X.s₀.heap.objs.size<=it)(h2:∀ x c,X.env.cells.lookup x=some c->c≠it)(h3:∀ p∈X.pn++pins,p.1≠it):Inv X pins σ H { s with heap:=h',toks:=t' }:=by
 have U0:∀ b u,H b=some u->b≠it:=fun b u e z=>by rw[z,hn]at e;cases e
 refine I.step (g':=s.gens) (d':=s.drawn) (ch:=[it]) (fun b hb=>?_) (fun b o _ _ hc e _=>k b o (fun z=>hc (by simp[z])) e) (fun b o _ _ hc e _=>⟨o.slots,k b o (fun z=>hc (by simp[z])) e⟩) (fun _ _ _ _ n=>n)
  (fun b o hc e=>⟨o,k b o (fun z=>hc (by simp[z])) e⟩) (fun _ _ e=>e) (fun _ _ _ e=>e) (fun b ps e=>⟨#[],by rw[e];simp⟩) (fun m hm=>?_) (fun b u e=>?_) I.bare
 ·have e:b=it:=by simpa using hb
  subst e;exact⟨h1,hL,h2,h3⟩
 ·obtain⟨o,es,ep,ho,r⟩:=hm
  exact⟨o,es,ep,k _ o (ba hL) ho,r⟩
 refine(I.hok b u e).stay (fun c v hc q=>k c v ?_ q) (fun _ q=>q) fun _ _ q=>q
 rcases hc with z|z
 ·rw[z];exact U0 b u e
 exact U0 c _ z
theorem Inv.tok(I:Inv X pins σ H s)(t:Nat):Inv X pins σ H { s with toks:=t }:=I.un (h':=s.heap) (t':=t) Un.refl I.hok
theorem Inv.kept{t':Nat}(I:Inv X pins σ H s)(k:∀ b u,s.heap.get? b=some u->h'.get? b=some u):Inv X pins σ H { s with heap:=h',toks:=t' }:=I.un (Un.kept k) (I.hok.kept k)
theorem Inv.laid{a:Addr}{o:HO}{t':Nat}(I:Inv X pins σ H s)(k:∀ b u,s.heap.get? b=some u->h'.get? b=some u)(hp:s.heap.objs.size<=a)(new:eM X.prog X.w (upd H a o) h' a o): Inv X pins σ (upd H a o) { s with heap:=h',toks:=t' }:=I.un (Un.laid k hp (I.hok.fresh hp)) (I.hok.laid k hp new)
theorem Inv.write{x e:Addr}{o:HO}{t':Nat}(I:Inv X pins σ H s)(mu:Pm (H x))(he:e=x\/H e=some (.own x))(k:∀ b u,b≠e->s.heap.get? b=some u->h'.get? b=some u)(K_:∃ u,h'.get? e=some u)(new:eM X.prog X.w (upd H x o) h' x o):Inv X pins σ (upd H x o) { s with heap:=h',toks:=t' }:=I.un (Un.write mu he k K_) (I.hok.write mu he k K_ new)
theorem Inv.weak{σ':List (Option V)}(I:Inv X pins σ H s)(hl:σ'.length=σ.length)(w:∀(i:Nat) v,σ'[i]?=some (some v)->σ[i]?=some (some v)):Inv X pins σ' H s :=
 ⟨I.ok,I.os,I.bare,I.base,let ⟨m,hn,xE⟩:=I.loc;⟨m,hn,fun i x v e1 e2 e3=>xE i x v e1 (w i v e2) e3⟩,I.cell,I.free,I.i8,I.pin,I.hok,hl.trans I.len⟩
theorem Inv.ny{E1:List (Addr×Obj)}(I:Inv X pins σ H s)(h:∀ p∈E1,s.heap.get? p.1=some p.2/\H p.1=none/\p.1≠X.env.locals/\p.1∉X.fs/\∀ v,p.2.data≠.cell v):Inv X E1 σ H s :=
 ⟨I.ok,I.os,I.bare,I.base,I.loc,I.cell,I.free,I.i8,fun p hp=>(aw.mp hp).elim (fun z=>I.pin p (sN _ z)) (h p),I.hok,I.len⟩
theorem vP(hN:N.Nodup)(a:N[i]?=some x)(b:N[j]?=some x):i=j:=by
 obtain⟨h1,e1⟩:=List.getElem?_eq_some_iff.mp a;obtain⟨h2,e2⟩:=List.getElem?_eq_some_iff.mp b;exact(List.getElem_inj hN).mp (e1.trans e2.symm)
theorem um{M:Model}{Q:Unit->Shared->Prop}(I:Inv X pins σ H s)(hN:X.N.Nodup)(hi:X.N[i]?=some x)(hx:Loc X.env.scope x)(r:RelV v u)
  (h:∀ s',Inv X pins (σ.set i (some v)) H s'->(∃ a,Heap.SameBut a s.heap s'.heap/\(a=X.env.locals\/X.env.cells.lookup x=some a))->Q () s') (hf:X.fn x=true\/X.env.scope.names.lookup x=some .local:=by first|exact .inl rfl|exact .inr rfl|assumption):wpAny M A (storeName X.env x u) Q E s:=by
 obtain⟨m,hn,hl⟩:=id I.loc;have IQ:(X.env.scope.kind == .class||(X.env.scope.kind == .module&&X.env.locals != X.env.globals))=false:=by rw[I.ok.kind];rfl
 have VB:i<σ.length:=by rw[I.len];exact(List.getElem?_eq_some_iff.mp hi).1
 have JI:=I.JI
 have tracked:∀{a:Addr}{h':Heap},(∃ o,s.heap.get? a=some o/\H a=none)->Heap.SameBut a s.heap h'->kK X.prog X.w H h':=fun {a h'} ha hs b ob e=>by
  obtain⟨_,_,hfree⟩:=ha;refine(I.hok b ob e).stay (fun c w' hc q=>(hs.2 c ?_).trans q) (fun _ q=>q) fun _ _ q=>q
  rintro rfl;rcases hc with rfl|hc
  ·rw[hfree]at e;cases e
  rw[hfree]at hc;cases hc
 rcases hx with hk|hk
 ·refine wpAny_storeName_local hk hn (fun h' hn' hs=>?_) IQ
  obtain⟨oL,_,_,MW,_⟩:=id hn;refine h _ ⟨I.ok,I.os,I.bare,⟨fun b o e n hb hx=>?_,fun b o e n hb hx=>?_,I.base.free,fun b o e hx=>?_,I.base.b9,I.base.kL,I.base.kX⟩,⟨_,hn',fun j y v' e1 e2 e3=>?_⟩,fun y c e=>?_,I.free,I.i8,fun p hp=>?_,tracked ⟨oL,MW,I.free⟩ hs,by simpa using I.len⟩ ⟨_,hs,.inl rfl⟩
  ·exact(hs.2 b (b4 (a_ (ay e) I.ok.above))).trans (I.base.keep b o e n hb hx)
  ·obtain⟨sl,e1⟩:=I.base.slot b o e n hb hx
   exact⟨sl,(hs.2 b (b4 (a_ (ay e) I.ok.above))).trans e1⟩
  ·obtain⟨o',e1⟩:=I.base.there b o e hx
   exact⟨o',(hs.2 b (b4 (a_ (ay e) I.ok.above))).trans e1⟩
  ·by_cases hj:j=i
   ·subst hj
    rw[hi]at e1;cases e1;rw[List.getElem?_set_self VB]at e2;cases e2;exact⟨u,r,.inl ⟨hk,oz⟩⟩
   rw[List.getElem?_set_ne (ba hj)]at e2;obtain⟨u',r',q⟩:=hl j y v' e1 e2 e3;refine⟨u',r',?_⟩;rcases q with⟨k,e⟩|⟨k,c,e,z⟩
   ·refine .inl ⟨k,?_⟩
    have:y≠x:=fun e=>hj (vP hN e1 (e ▸ hi))
    simp[this,e]
   exact .inr ⟨k,c,e,z.sameBut hs (JI y c e)⟩
  ·obtain⟨w',z⟩:=I.cell y c e
   exact⟨w',z.sameBut hs (JI y c e)⟩
  obtain⟨e,n,ne,nf,d⟩:=I.pin p hp;exact⟨(hs.2 p.1 ne).trans e,n,ne,nf,d⟩
 have Sx:X.fn x=true:=by
  rcases hf with z|z
  ·exact z
  rw[z]at hk;cases hk
 obtain⟨c,hc⟩:=I.ok.has x (.inl hk);obtain⟨w',z⟩:=I.cell x c hc;refine wpAny_storeName_cell I.ok.kind hk hc z (fun h' sx hs=>?_);obtain⟨oc,Vq,R4⟩:=id z;refine h { s with heap:=h' } ⟨I.ok,I.os,I.bare,⟨fun b o e n hb hx=>?_,fun b o e n hb hx=>?_,I.base.free,fun b o e hx=>?_,I.base.b9,I.base.kL,I.base.kX⟩,⟨m,hn.sameBut hs (ba (JI x c hc)),fun j y v' e1 e2 e3=>?_⟩,fun y c' e=>?_,I.free,I.i8,fun p hp=>?_,tracked ⟨oc,Vq,I.i8 x c hc⟩ hs,by simpa using I.len⟩ ⟨c,hs,.inr hc⟩
 ·exact(hs.2 b (b4 (a_ (ay e) (I.ok.JJ x c Sx hc)))).trans (I.base.keep b o e n hb hx)
 ·obtain⟨sl,e1⟩:=I.base.slot b o e n hb hx
  exact⟨sl,(hs.2 b (b4 (a_ (ay e) (I.ok.JJ x c Sx hc)))).trans e1⟩
 ·obtain⟨o',e1⟩:=I.base.there b o e hx
  exact⟨o',(hs.2 b (b4 (a_ (ay e) (I.ok.JJ x c Sx hc)))).trans e1⟩
 ·by_cases hj:j=i
  ·subst hj
   rw[hi]at e1;cases e1;rw[List.getElem?_set_self VB]at e2;cases e2;exact⟨u,r,.inr ⟨.inl hk,c,hc,sx⟩⟩
  rw[List.getElem?_set_ne (ba hj)]at e2;obtain⟨u',r',q⟩:=hl j y v' e1 e2 e3;refine⟨u',r',?_⟩;rcases q with q|⟨k,c',e,z'⟩
  ·exact .inl q
  refine .inr ⟨k,c',e,z'.sameBut hs ?_⟩;rintro rfl;exact hj (vP hN e1 (I.ok.inj _ _ _ e hc ▸ hi))
 ·by_cases QI:c'=c
  ·subst QI;exact⟨_,sx⟩
  obtain⟨w2,z2⟩:=I.cell y c' e;exact⟨w2,z2.sameBut hs QI⟩
 obtain⟨e,n,ne,nf,d⟩:=I.pin p hp;refine⟨(hs.2 p.1 ?_).trans e,n,ne,nf,d⟩;intro q;rw[q,Vq]at e;have q':oc=p.2:=iE e;exact d w' (by rw[<- q'];exact R4)
theorem mQ{M:Model}{Q:Unit->Shared->Prop}(I:Inv X pins σ H s)(hN:X.N.Nodup)(hi:X.N[i]?=some x)(hx:Loc X.env.scope x)(r:RelV v u)
  (h:∀ s',Inv X pins (σ.set i (some v)) H s'->Q () s') (hf:X.fn x=true\/X.env.scope.names.lookup x=some .local:=by first|exact .inl rfl|exact .inr rfl|assumption):wpAny M A (storeName X.env x u) Q E s :=
 um I hN hi hx r (fun s' I' _=>h s' I') hf
theorem Inv.FK(I:Inv X pins σ H s)(ho:s'.os=s.os)(u:Un (iq X.stack) ch H H' s.heap s'.heap)(hok:kK X.prog X.w H' s'.heap)(hg:AllBare s'.gens)(BU:∀ b∈ch,(b∈X.ex\/X.s₀.heap.objs.size<=b)/\b≠X.env.locals/\(∀ x c,X.env.cells.lookup x=some c->c≠b)/\∀ p∈X.pn++pins,p.1≠b):Inv X pins σ H' s':=by
 obtain⟨h',g',d',t',o'⟩:=s';have e:o'=s.os:=ho;subst e;exact I.call (g':=g') (t':=t') (d':=d') u hok hg BU
end
abbrev XK:=Value->Option Addr->Hp->Prop
abbrev St:=List (Option V)
end L2
variable{σ:L2.St}
namespace L2
open PySem PySem.Spec PyProof.Rows
abbrev VK:=V->Hp->Prop
abbrev TE:=St->Hp->VK->Prop
end L2
variable{ta tb te tc tl tv to td ty:L2.TE}{EV:List (L2.TE×L2.TE)}
namespace L2
open PySem PySem.Spec PyProof.Rows
abbrev TT:=St->Hp->(Bool->Hp->Prop)->Prop
abbrev TA:=St->Hp->(List V->Hp->Prop)->Prop
structure Ends where
 nx:St->Hp->Prop
 rt:VK
 bk:St->Hp->Prop:=fun _ _=>False
 ct:St->Hp->Prop:=fun _ _=>False
abbrev TS:=Ends->St->Hp->Prop
inductive EP(X:Cx)(pins:List (Addr×Obj))(σ:St)(Q:VK)(u:Value)(s':Shared):Prop
 |mk(v:V)(H':Hp)(_:Inv X pins σ H' s')(_:RelV v u)(_:Q v H')
inductive TP(X:Cx)(pins:List (Addr×Obj))(σ:St)(Q:Bool->Hp->Prop)(b:Bool)(s':Shared):Prop
 |mk(H':Hp)(_:Inv X pins σ H' s')(_:Q b H')
inductive AP(X:Cx)(pins:List (Addr×Obj))(σ:St)(Q:List V->Hp->Prop)(us:List Value)(s':Shared):Prop
 |mk(vs:List V)(H':Hp)(_:Inv X pins σ H' s')(_:Vals vs us)(_:Q vs H')
def SP(X:Cx)(pins:List (Addr×Obj))(D:Ends)(f:Flow)(s':Shared):Prop :=
 match f with
 | .next=>∃ σ' H',Inv X pins σ' H' s'/\D.nx σ' H'
 | .brk=>∃ σ' H',Inv X pins σ' H' s'/\D.bk σ' H'
 | .cont=>∃ σ' H',Inv X pins σ' H' s'/\D.ct σ' H'
 | .ret u=>∃ v σ' H',Inv X pins σ' H' s'/\RelV v u/\D.rt v H'
def PE(X:Cx)(e:Expr)(t:TE):Prop :=
 ∀(pins:List (Addr×Obj))(s:Shared)(σ:St)(H:Hp)(Q:VK),Inv X pins σ H s->t σ H Q->wpAny (model X.prog X.w) X.A (eval e X.env) (EP X pins σ Q) X.xe s
def PT(X:Cx)(e:Expr)(t:TT):Prop :=
 ∀(pins:List (Addr×Obj))(s:Shared)(σ:St)(H:Hp)(Q:Bool->Hp->Prop),Inv X pins σ H s->t σ H Q->wpAny (model X.prog X.w) X.A (isTrue e X.env (eval e X.env)) (TP X pins σ Q) X.xe s
def PW(X:Cx)(e:Expr)(t:TT):Prop :=
 ∀(whole:Sem Value)(pins:List (Addr×Obj))(s:Shared)(σ:St)(H:Hp)(Q:Bool->Hp->Prop),Inv X pins σ H s->t σ H Q->wpAny (model X.prog X.w) X.A (isTrue e X.env whole) (TP X pins σ Q) X.xe s
theorem PW.pt{t:TT}(h:PW X e t):PT X e t:=h _
def PA(X:Cx)(es:List Expr)(t:TA):Prop :=
 ∀(pos:Pos)(pins:List (Addr×Obj))(s:Shared)(σ:St)(H:Hp)(Q:List V->Hp->Prop),Inv X pins σ H s->t σ H Q->wpAny (model X.prog X.w) X.A (spliced (backTo pos (starEach es X.env))) (AP X pins σ Q) X.xe s
def PS(X:Cx)(st:Stmt)(t:TS):Prop :=
 ∀(pins:List (Addr×Obj))(s:Shared)(σ:St)(H:Hp)(D:Ends),Inv X pins σ H s->t D σ H->wpAny (model X.prog X.w) X.A (exec st X.env) (SP X pins D) X.xe s
def tF(X:Cx)(st:List Stmt)(t:TS):Prop :=
 ∀(pins:List (Addr×Obj))(s:Shared)(σ:St)(H:Hp)(D:Ends),Inv X pins σ H s->t D σ H->wpAny (model X.prog X.w) X.A (execs st X.env) (SP X pins D) X.xe s
theorem thn{α:Type}{t:Sem α}{Q Q':α->Shared->Prop}{M:Model}(h:wpAny M A t Q E s)(hQ:∀ a s,Q a s->Q' a s):wpAny M A t Q' E s:=df h hQ fun _ _ x=>x
section
theorem bin{a b:Expr}{ta tb:TE}(ha:PE X a ta)(hb:PE X b tb){pins:List (Addr×Obj)}{s:Shared}{σ:St}{H:Hp}{R:V->V->Hp->Prop}(I:Inv X pins σ H s)(h:ta σ H fun x H1=>tb σ H1 fun y H2=>R x y H2){α:Type}{Q:α->Shared->Prop}{f:Value->Value->Sem α}(hf:∀ v u s2 x y H2,Inv X pins σ H2 s2->RelV x v->RelV y u->R x y H2->wpAny (model X.prog X.w) X.A (f v u) Q X.xe s2): wpAny (model X.prog X.w) X.A (eval a X.env) (fun v s₁=>wpAny (model X.prog X.w) X.A (eval b X.env) (fun u s₂=>wpAny (model X.prog X.w) X.A (f v u) Q X.xe s₂) X.xe s₁) X.xe s:=by
 refine thn (ha pins s σ H _ I h) fun v s1 ⟨x,H1,I1,r1,q1⟩=>?_
 refine thn (hb pins s1 σ H1 _ I1 q1) fun u s2 ⟨y,H2,I2,r2,q2⟩=>?_
 exact hf v u s2 x y H2 I2 r1 r2 q2
inductive Cf(i:Nat)(σ:St)(H:Hp)(Q:VK):Prop
 |mk(v:_)(_:σ[i]?=some (some v))(_:Q v H)
def tC(v:V):TE:=fun _ H Q=>Q v H
theorem vQ(hN:X.N[i]?=some x) (hv:O_ X.env.scope x) (hd:(x==("__debug__":Str))=false:=by decide) (tj:(x==("__classdict__":Str))=false:=by decide):PE X (.Name x pos) (Cf i):=by
 intro pins s σ H Q I h;obtain⟨v,e,h⟩:=h;obtain⟨m,hn,hl⟩:=I.loc;obtain⟨u,r,l⟩:=hl i x v hN e hv;have fin:EP X pins σ Q u s:=⟨v,H,I,r,h⟩
 rcases l with⟨hk,hm⟩|⟨hk,c,hc,vw⟩
 ·exact wpAny_Name (wpAny_loadName_local I.ok.kind hk hn hm fin) hd
 rcases hk with hk|hk
 ·exact wpAny_Name (wpAny_loadName_cell I.ok.kind hk hc vw fin) hd
 exact wpAny_Name (wpAny_loadName_free I.ok.kind hk hc vw fin tj) hd
theorem ak{i j pos}:PE X (.Constant (.int i) j pos) (tC (.int i)):=fun _ _ _ H _ I h=>wpAny_Constant_int ⟨.int i,H,I.tok _,⟨_,rfl⟩,h⟩
theorem eU{b j pos}:PE X (.Constant (.bool b) j pos) (tC (.bl b)):=fun _ _ _ H _ I h=>Constant_bool ⟨.bl b,H,I,rfl,h⟩
theorem bK{j pos}:PE X (.Constant .none j pos) (tC .non):=fun _ _ _ H _ I h=>Constant_none ⟨.non,H,I,rfl,h⟩
theorem az{x j pos}:PE X (.Constant (.str x) j pos) (tC (.str x)):=fun _ _ _ H _ I h=>Calls.Constant_str ⟨.str x,H,I.tok _,⟨_,rfl⟩,h⟩
def Gl(X:Cx)(x:Str):Prop:=X.env.kindOf x=some .globalImplicit
theorem je(I:Inv X pins σ H s)(hg:Gl X x)(hm:X.mg x=some u)(h:Q u s)
  (hd:(x==("__debug__":Str))=false:=by decide):wpAny (model X.prog X.w) X.A (eval (.Name x pos) X.env) Q E s :=
 Calls.Name_function_global I.ok.kind hg (Calls.loadGlobal_global (by rw[I.ok.glob];exact I.mod.glob.keeps I.bk) hm h) hd
theorem j6(I:Inv X pins σ H s)(hg:Gl X x)(hm:X.mg x=none)(hv:bootBuiltins x=some u)(h:Q u s)
  (hn:x≠"__name__":=by decide) (hd:(x==("__debug__":Str))=false:=by decide):wpAny (model X.prog X.w) X.A (eval (.Name x pos) X.env) Q E s:=by
 obtain⟨mb,h1,h2⟩:=I.mod.blt;exact Calls.Name_function_global I.ok.kind hg (Calls.loadGlobal_builtin (by rw[I.ok.glob];exact I.mod.glob.keeps I.bk) hm (by rw[I.ok.blt];exact h1.keeps I.bk) ((h2 x hn).trans hv) h) hd
theorem JR(hg:Gl X x) (hm:X.mg x=some u) (r:RelV v u) (hd:(x==("__debug__":Str))=false:=by decide):PE X (.Name x pos) (tC v):=
 fun _ _ _ H _ I h=>je I hg hm ⟨v,H,I,r,h⟩ hd
theorem JS(hg:Gl X x) (hm:X.mg x=none) (hv:bootBuiltins x=some u) (r:RelV v u) (hn:x≠"__name__":=by decide) (hd:(x==("__debug__":Str))=false:=by decide):PE X (.Name x pos) (tC v):=
 fun _ _ _ H _ I h=>j6 I hg hm hv ⟨v,H,I,r,h⟩ hn hd
variable{a b:Expr}
def PC(X:Cx)(op:CmpOp)(a b:Expr)(t:TE):Prop :=
 ∀(pins:List (Addr×Obj))(s:Shared)(σ:St)(H:Hp)(Q:VK),Inv X pins σ H s->t σ H Q ->
  wpAny (model X.prog X.w) X.A (eval a X.env) (fun v s₁=>wpAny (model X.prog X.w) X.A (eval b X.env) (fun u s₂=>wpAny (model X.prog X.w) X.A (compareOp op v u) (EP X pins σ Q) X.xe s₂) X.xe s₁) X.xe s
inductive iB(Q:Bool->Hp->Prop)(x:V)(H:Hp):Prop
 |mk(c:Bool)(_:x=.bl c)(_:Q c H)
def tB(t:TE):TT:=fun σ H Q=>t σ H fun x H1=>iB Q x H1
theorem rF{op:CmpOp}{t:TE}(h:PC X op a b t)(h1:behindInMarks op b=false:=by first|exact nobehind _ odz odz|rfl):PT X (.Compare a [op] [b] pos) (tB t):=by
 intro pins s σ H Q I hw;refine wpAny_isTrue_Compare1 (thn (h pins s σ H _ I hw) fun v s1 h1=>thn h1 fun u s2 h2=>thn h2 fun c s3 ⟨x,H1,I1,r1,q1⟩=>?_) h1;obtain⟨d,rfl,q⟩:=q1;cases r1;exact c6 ⟨H1,I1,q⟩
theorem bV{t:TE}(h:PE X e t)(he:∀ whole,isTrue e X.env whole=(do let v <- whole;standAt e.pos;holding [v] (truthy v)):=by intro _;rfl):PT X e (tB t):=by
 intro pins s σ H Q I hw;refine isTrue_plain (thn (h pins s σ H _ I hw) fun v s1 ⟨x,H1,I1,r1,q1⟩=>?_) (he _);obtain⟨d,rfl,q⟩:=q1;cases r1;exact c6 ⟨H1,I1,q⟩
variable{tA PF:TT}{rest:List Expr}
def Pu(t u:TT):TT:=fun σ H Q=>t σ H fun c H1=>if c=true then u σ H1 Q else Q false H1
def _w(t u:TT):TT:=fun σ H Q=>t σ H fun c H1=>if c=true then Q true H1 else u σ H1 Q
def Px(t:TT):TT:=fun σ H Q=>t σ H fun c H1=>Q (!c) H1
theorem dU(ha:PT X a tA):PW X (.BoolOp .And [a] pos) tA:=by
 intro wh pins s σ H Q I h;refine isTrue_and (thn (ha pins s σ H Q I h) fun c s1 e=>?_);cases c with
 |true=>exact isTrue_and_nil e
 |false=>exact e
theorem gk(ha:PT X a tA):PW X (.BoolOp .Or [a] pos) tA:=by
 intro wh pins s σ H Q I h;refine isTrue_or (thn (ha pins s σ H Q I h) fun c s1 e=>?_);cases c with
 |false=>exact isTrue_or_nil e
 |true=>exact e
theorem eV(ha:PT X a tA)(hb:PW X (.BoolOp .And (b::rest) pos) PF):PW X (.BoolOp .And (a::b::rest) pos) (Pu tA PF):=by
 intro wh pins s σ H Q I h;refine isTrue_and (thn (ha pins s σ H _ I h) fun c s1 ⟨H1,I1,q1⟩=>?_);cases c with
 |true=>exact hb wh pins s1 σ H1 Q I1 q1
 |false=>exact⟨H1,I1,q1⟩
theorem eX(ha:PT X a tA)(hb:PW X (.BoolOp .Or (b::rest) pos) PF):PW X (.BoolOp .Or (a::b::rest) pos) (_w tA PF):=by
 intro wh pins s σ H Q I h;refine isTrue_or (thn (ha pins s σ H _ I h) fun c s1 ⟨H1,I1,q1⟩=>?_);cases c with
 |true=>exact⟨H1,I1,q1⟩
 |false=>exact hb wh pins s1 σ H1 Q I1 q1
theorem cP(ha:PT X a tA):PT X (.UnaryOp .Not a pos) (Px tA):=by
 intro pins s σ H Q I h;exact isTrue_not (thn (ha pins s σ H (fun c H1=>Q (!c) H1) I h) fun c s1 ⟨H1,I1,q1⟩=>⟨H1,I1,q1⟩)
def Oa(ta tb:TE):TE:=fun σ H Q=>ta σ H fun x H1=>∃ c,x=.bl c/\if c=true then tb σ H1 Q else Q (.bl false) H1
def Py(ta tb:TE):TE:=fun σ H Q=>ta σ H fun x H1=>∃ c,x=.bl c/\if c=true then Q (.bl true) H1 else tb σ H1 Q
def Ob(ta:TE):TE:=fun σ H Q=>ta σ H fun x H1=>∃ c,x=.bl c/\Q (.bl (!c)) H1
theorem lZ{op}{t:TE}(h:PE X a t):PE X (.BoolOp op [a] pos) t:=fun pins s σ H Q I hw=>BoolOp_one (h pins s σ H Q I hw)
theorem oh(ha:PE X a ta)(hb:PE X (.BoolOp .And (b::rest) pos) tb):PE X (.BoolOp .And (a::b::rest) pos) (Oa ta tb):=by
 intro pins s σ H Q I h;refine BoolOp_and (thn (ha pins s σ H _ I h) fun v s1 ⟨x,H1,I1,r1,q1⟩=>?_);obtain⟨c,rfl,q1⟩:=q1;cases r1;refine c6 ?_;cases c with
 |true=>exact hb pins s1 σ H1 Q I1 q1
 |false=>exact⟨.bl false,H1,I1,Z,q1⟩
theorem Oc(ha:PE X a ta)(hb:PE X (.BoolOp .Or (b::rest) pos) tb):PE X (.BoolOp .Or (a::b::rest) pos) (Py ta tb):=by
 intro pins s σ H Q I h;refine BoolOp_or (thn (ha pins s σ H _ I h) fun v s1 ⟨x,H1,I1,r1,q1⟩=>?_);obtain⟨c,rfl,q1⟩:=q1;cases r1;refine c6 ?_;cases c with
 |false=>exact hb pins s1 σ H1 Q I1 q1
 |true=>exact⟨.bl true,H1,I1,Z,q1⟩
theorem Lx(ha:PE X a ta):PE X (.UnaryOp .Not a pos) (Ob ta):=by
 intro pins s σ H Q I h;refine UnaryOp_ (thn (ha pins s σ H _ I h) fun v s1 ⟨x,H1,I1,r1,q1⟩=>?_);obtain⟨c,rfl,q1⟩:=q1;cases r1;exact not_of (c6 ⟨.bl (!c),H1,I1,rfl,q1⟩)
def _x(t:TT)(ta tb:TE):TE:=fun σ H Q=>t σ H fun c H1=>if c=true then ta σ H1 Q else tb σ H1 Q
theorem fD{c:Expr}(hc:PT X c tA)(ha:PE X a ta)(hb:PE X b tb):PE X (.IfExp c a b pos) (_x tA ta tb):=by
 intro pins s σ H Q I h;refine wpAny_IfExp (thn (hc pins s σ H _ I h) fun d s1 ⟨H1,I1,q1⟩=>?_);cases d with
 |true=>exact ha pins s1 σ H1 Q I1 q1
 |false=>exact hb pins s1 σ H1 Q I1 q1
end
def SqL(K:W.Frag)(H:Hp)(a:Addr)(xs:List V):Prop :=
 Rd H a (.lst xs) \/
  ∃(o:Obj) (its:Array Value) (n:Nat),K.lookup a=some o/\o.cls=.type "list"/\o.dict=none/\o.data=.seq its n/\its.size<=sizeLine/\Vals xs its.toList
def SqT(K:W.Frag)(H:Hp)(a:Addr)(xs:List V):Prop :=
 Rd H a (.tup xs) \/
  ∃(o:Obj) (its:Array Value) (n:Nat),K.lookup a=some o/\o.cls=.type "tuple"/\o.data=.seq its n/\its.size<=sizeLine/\Vals xs its.toList
def Pz:Value->Option V
 | .none=>some .non
 | .bool b=>some (.bl b)
 | .int i _=>some (.int i)
 | .str x _=>some (.str x)
 | .bytes b _=>some (.byt b)
 | .float b _=>some (.flt b)
 | .ref a=>some (.ref a)
 | .type n=>some (.ty n)
 |_=>none
theorem RelV.abs{x:V}(r:RelV x u):Pz u=some x:=by
 cases x with
 |non=>cases r;rfl
 |bl _=>cases r;rfl
 |int _=>obtain⟨t,rfl⟩:=r;rfl
 |str _=>obtain⟨t,rfl⟩:=r;rfl
 |byt _=>obtain⟨t,rfl⟩:=r;rfl
 |flt _=>obtain⟨t,rfl⟩:=r;rfl
 |ref _=>cases r;rfl
 |ty _=>cases r;rfl
theorem RelV.inj{x:V}(r:RelV x u)(q:RelV y u):x=y:=iE (r.abs.symm.trans q.abs)
theorem Vals.inj:∀{xs ys:List V}{us:List Value},Vals xs us->Vals ys us->xs=ys
 |_,_,_,.nil,.nil=>rfl
 |_,_,_,.cons r t,.cons r' t'=>by rw[r.inj r',Vals.inj t t']
section
variable{ys:List V}
theorem SqL.of(h:H a=some (.lst xs)):SqL K H a xs:=.inl (.inl h)
theorem SqT.of(h:H a=some (.tup xs)):SqT K H a xs:=.inl (.inl h)
theorem Inv.list(I:Inv X pins σ H s)(h:SqL X.K H a xs):∃ its:List Value,Vals xs its/\PlainL s.heap a its.toArray/\xs.length<=sizeLine:=by
 rcases h with h|⟨o,its,n,hk,hc,hd,hs,hz,r⟩
 ·obtain⟨z,its,n,r,e⟩:=h.ok I.hok
  exact⟨its,r,⟨_,n,e,Z,Z,Z⟩,z⟩
 refine⟨its.toList,r,⟨o,n,I.kIn a o hk,hc,hd,by simpa using hs⟩,?_⟩;have e:=r.length;simp only[ag]at e;exact oo
theorem Inv.tuple(I:Inv X pins σ H s)(h:SqT X.K H a xs):∃ its:List Value,Vals xs its/\IsTup s.heap a its.toArray/\xs.length<=sizeLine:=by
 rcases h with h|⟨o,its,n,hk,hc,hs,hz,r⟩
 ·obtain⟨z,its,r,p⟩:=h.ok I.hok
  exact⟨its,r,p.tup,z⟩
 refine⟨its.toList,r,⟨o,I.kIn a o hk,hc,n,by simpa using hs⟩,?_⟩;have e:=r.length;simp only[ag]at e;exact oo
theorem Inv.rg(I:Inv X pins σ H s)(h:SqL X.K H a xs)(h':SqL X.K H a ys):xs=ys:=by
 obtain⟨its,r,⟨o,n,e,_,_,d⟩,_⟩:=I.list h;obtain⟨its',r',⟨o',n',e',_,_,d'⟩,_⟩:=I.list h';rw[e]at e';cases e';rw[d]at d'
 injection d' with d1 _
 have:its=its':=by simpa using bP Array.toList d1
 subst this;exact r.inj r'
theorem Inv.oQ(I:Inv X pins σ H s)(h:SqT X.K H a xs)(h':SqT X.K H a ys):xs=ys:=by
 obtain⟨its,r,⟨o,e,_,n,d⟩,_⟩:=I.tuple h;obtain⟨its',r',⟨o',e',_,n',d'⟩,_⟩:=I.tuple h';rw[e]at e';cases e';rw[d]at d'
 injection d' with d1 _
 have:its=its':=by simpa using bP Array.toList d1
 subst this;exact r.inj r'
end
abbrev Cx.pe(X:Cx)(E:Value->Shared->Prop):Cx:={ X with xe:=E }
abbrev Cx.RA(X:Cx):Cx:=X.pe fun _ _=>False
theorem Cx.Ok.pe(ok:X.Ok)(E:Value->Shared->Prop):(X.pe E).Ok :=
 ⟨ok.mod,ok.kind,ok.glob,ok.blt,ok.above,ok.inj,ok.has,ok.JJ,ok.hd,ok.frames,ok.Kk,ok.QT,ok.bs,ok.AV,ok.sP,ok.xi,ok.l8,ok.EC⟩
theorem Cx.Ok.sF(ok:(X.pe E).Ok):X.Ok :=
 ⟨ok.mod,ok.kind,ok.glob,ok.blt,ok.above,ok.inj,ok.has,ok.JJ,ok.hd,ok.frames,ok.Kk,ok.QT,ok.bs,ok.AV,ok.sP,ok.xi,ok.l8,ok.EC⟩
theorem Inv.pe(I:Inv X pins σ H s)(E:Value->Shared->Prop):Inv (X.pe E) pins σ H s:=⟨I.ok.pe E,I.os,I.bare,I.base,I.loc,I.cell,I.free,I.i8,I.pin,I.hok,I.len⟩
theorem Inv.sF(I:Inv (X.pe E) pins σ H s):Inv X pins σ H s:=⟨I.ok.sF,I.os,I.bare,I.base,I.loc,I.cell,I.free,I.i8,I.pin,I.hok,I.len⟩
section
variable{rest:List Stmt}{t u:TS}
def Od:TS:=fun D σ H=>D.nx σ H
def Ly(t u:TS):TS:=fun D σ H=>t { D with nx:=u D } σ H
theorem aO:tF X [] Od:=fun _ _ σ H _ I h=>iO ⟨σ,H,I,h⟩
theorem ao(h1:PS X st t)(h2:tF X rest u):tF X (st::rest) (Ly t u):=by
 intro pins s σ H D I h;refine wpAny_execs_cons (thn (h1 pins s σ H { D with nx:=u D } I h) fun f s1 q=>?_);cases f with
 | next =>
  obtain⟨σ',H',I',q⟩:=q;exact h2 pins s1 σ' H' D I' q
 |ret v=>exact q
 |brk=>exact q
 |cont=>exact q
theorem aq(h1:PS X st t):tF X [st] t:=by
 intro pins s σ H D I h;refine wpAny_execs_cons (thn (h1 pins s σ H D I h) fun f s1 q=>?_);cases f with
 |next=>exact iO q
 |ret v=>exact q
 |brk=>exact q
 |cont=>exact q
def Oe:TS:=fun D σ H=>D.ct σ H
theorem xZ:PS X (.Continue pos) Oe:=fun _ _ σ H _ I h=>wpAny_Continue ⟨σ,H,I,h⟩
theorem Inv.quiet(I:Inv X pins σ H s):interactive X.env=false:=by simp[interactive,I.ok.kind]
def Og(te:TE):TS:=fun D σ H=>te σ H fun _ H1=>D.nx σ H1
theorem bA(he:PE X e te)(hs:swapsWith e none pos.line X.env=pure false:=by rfl):PS X (.Expr e pos) (Og te):=by
 intro pins s σ H D I h;exact wpAny_Expr_any (thn (he pins s σ H _ I h) fun v s1 ⟨x,H1,I1,r1,q1⟩=>⟨σ,H1,I1,q1⟩) I.quiet hs
def PB(te:TE):TS:=fun D σ H=>te σ H D.rt
theorem aA(he:PE X e te):PS X (.Return (some e) pos) (PB te):=by
 intro pins s σ H D I h;exact wpAny_Return_some (thn (he pins s σ H _ I h) fun v s1 ⟨x,H1,I1,r1,q1⟩=>⟨x,σ,H1,I1,r1,q1⟩)
def Oh:TS:=fun D _ H=>D.rt .non H
theorem JT:PS X (.Return none pos) Oh:=fun _ _ σ H _ I h=>wpAny_Return_none ⟨.non,σ,H,I,rfl,h⟩
def PJ(c:TT)(t u:TS):TS:=fun D σ H=>c σ H fun b H1=>if b=true then t D σ H1 else u D σ H1
theorem aR{c:Expr}{a b:List Stmt}{tc:TT}(hc:PT X c tc)(ha:tF X a t)(hb:tF X b u):PS X (.If c a b pos) (PJ tc t u):=by
 intro pins s σ H D I h;refine wpAny_If (thn (hc pins s σ H _ I h) fun d s1 ⟨H1,I1,q1⟩=>?_);cases d with
 |true=>exact ha pins s1 σ H1 D I1 q1
 |false=>exact hb pins s1 σ H1 D I1 q1
def CJ:TS:=fun _ _ _=>False
theorem qF:PS X st CJ:=fun _ _ _ _ _ _ h=>h.elim
theorem jA{_y:List Stmt}:tF X _y CJ:=fun _ _ _ _ _ _ h=>h.elim
end
abbrev TG:=V->St->Hp->(St->Hp->Prop)->Prop
abbrev FL:=List V->St->Hp->(St->Hp->Prop)->Prop
def PG(X:Cx)(target:Expr)(t:TG):Prop :=
 ∀(pins:List (Addr×Obj))(s:Shared)(σ:St)(H:Hp)(v:V)(u:Value)(Q:St->Hp->Prop),Inv X pins σ H s->RelV v u->t v σ H Q ->
  wpAny (model X.prog X.w) X.A (assign target X.env u) (fun _ s'=>∃ σ' H',Inv X pins σ' H' s'/\Q σ' H') X.xe s
def LF(X:Cx)(ts:List Expr)(t:FL):Prop :=
 ∀(pins:List (Addr×Obj))(s:Shared)(σ:St)(H:Hp)(vs:List V)(us:List Value)(Q:St->Hp->Prop),Inv X pins σ H s->Vals vs us->t vs σ H Q ->
  wpAny (model X.prog X.w) X.A (assignInOrder ((assignEach ts X.env).map (·.2)) us) (fun _ s'=>∃ σ' H',Inv X pins σ' H' s'/\Q σ' H') X.xe s
abbrev Q3:=V->V->Hp->VK->Prop
end L2
variable{ti:L2.Q3}{D:L2.Ends}{tt:L2.TT}
namespace L2
open PySem PySem.Spec PyProof.Rows
def Uw(X:Cx)(op:Operator)(t:Q3):Prop :=
 ∀(pins:List (Addr×Obj))(s:Shared)(σ:St)(H:Hp)(x y:V)(v u:Value)(Q:VK),Inv X pins σ H s->RelV x v->RelV y u->t x y H Q ->
  wpAny (model X.prog X.w) X.A (inplaceOp op v u) (EP X pins σ Q) X.xe s
def lA(i:Nat):TG:=fun v σ H Q=>Q (σ.set i (some v)) H
theorem tE(hN:X.N.Nodup)(hi:X.N[i]?=some x)(hx:Loc X.env.scope x)(hf:X.fn x=true\/X.env.scope.names.lookup x=some .local:=by first|exact .inl rfl|exact .inr rfl|assumption):PG X (.Name x pos) (lA i):=by
 intro pins s σ H v u Q I r h;exact wpAny_assign_Name (mQ I hN hi hx r (fun s' I'=>⟨_,H,I',h⟩) hf)
def PK:FL:=fun vs σ H Q=>vs=[]/\Q σ H
def Oi(t:TG)(u:FL):FL:=fun vs σ H Q=>∃ v r,vs=v::r/\t v σ H fun σ' H'=>u r σ' H' Q
theorem eO:LF X [] PK:=by
 intro pins s σ H vs us Q I r h;obtain⟨e,h⟩:=h;subst e;cases r;exact assignInOrder_nil ⟨σ,H,I,h⟩
theorem bG{t:TG}{u:FL}(h1:PG X e t)(h2:LF X es u)
  (hs:(assignEach (e::es) X.env).map (·.2)=assign e X.env::(assignEach es X.env).map (·.2):=by rfl):LF X (e::es) (Oi t u):=by
 intro pins s σ H vs us Q I r h;obtain⟨v,vr,e1,h⟩:=h;subst e1;cases r with
 | cons r rr =>
  rw[hs];refine assignInOrder_cons (thn (h1 pins s σ H _ _ _ I r h) fun _ s1 ⟨σ1,H1,I1,q1⟩=>?_);exact h2 pins s1 σ1 H1 _ _ Q I1 rr q1
def Lz(K:W.Frag)(n:Nat)(t:FL):TG:=fun v σ H Q=>∃ a xs,v=.ref a/\SqT K H a xs/\xs.length=n/\t xs σ H Q
theorem mj{k:Nat}{t:FL}(hc:X.calm=true)(h:LF X es t)
  (hn:(assignEach es X.env).length=n:=by rfl) (nB:(assignEach es X.env).findIdx? (·.1)=none:=by rfl):PG X (.Tuple es k pos) (Lz X.K n t):=by
 intro pins s σ H v u Q I r hw;obtain⟨a,xs,e1,hq,hl,hw⟩:=hw;subst e1;cases r;obtain⟨its,rv,ht,hz⟩:=I.tuple hq;refine assign_Tuple_tuple (I.ok.hd hc) ht (by simp[hn,<- hl,rv.length]) nB fun h' hx=>?_
 have I1:Inv X pins σ H { s with heap:=h' }:=I.kept (t':=s.toks) fun b o e=>hx b o (b4 (ay e)) e
 exact h pins _ σ H xs _ Q I1 (by simpa using rv) hw
def Ai(te:TE)(g:TG):TS:=fun D σ H=>te σ H fun x H1=>g x σ H1 D.nx
theorem iM(hN:X.N.Nodup)(hi:X.N[i]?=some x)(hx:Loc X.env.scope x)(he:PE X e te)(hs:swapsWith e (some (.Name x pos')) pos.line X.env=pure false:=by rfl)(hf:X.fn x=true\/X.env.scope.names.lookup x=some .local:=by first|exact .inl rfl|exact .inr rfl|assumption):
  PS X (.Assign [.Name x pos'] e pos) (Ai te (lA i)):=by
 intro pins s σ H D I h;refine wpAny_Assign_Name (thn (he pins s σ H _ I h) fun v s1 ⟨y,H1,I1,r1,q1⟩=>?_) hs;exact mQ I1 hN hi hx r1 (fun s2 I2=>⟨_,H1,I2,q1⟩) hf
def LC(i:Nat)(te:TE)(ti:Q3):TS:=fun D σ H=>∃ x,σ[i]?=some (some x)/\te σ H fun y H1=>ti x y H1 fun z H2=>D.nx (σ.set i (some z)) H2
theorem CK{op:Operator}(hN:X.N.Nodup)(hi:X.N[i]?=some x)(hx:Loc X.env.scope x)(he:PE X e te)(ho:Uw X op ti)(hf:X.fn x=true\/X.env.scope.names.lookup x=some .local:=by first|exact .inl rfl|exact .inr rfl|assumption):
  PS X (.AugAssign (.Name x pos') op e pos) (LC i te ti):=by
 intro pins s σ H D I h;obtain⟨v,e1,h⟩:=h;obtain⟨m,hn,hl⟩:=I.loc;have Q9:O_ X.env.scope x:=by rcases hx with k|k;exact .inl k;exact .inr (.inl k)
 obtain⟨u,r,l⟩:=hl i x v hi e1 Q9;refine wpAny_AugAssign_Name ?_
 have go:wpAny (model X.prog X.w) X.A (eval e X.env) (fun w s₂=>wpAny (model X.prog X.w) X.A (inplaceOp op u w) (fun r s₃=>wpAny (model X.prog X.w) X.A (storeName X.env x r) (fun _=>SP X pins D .next) X.xe s₃) X.xe s₂) X.xe s:=by
  refine thn (he pins s σ H _ I h) fun w s1 ⟨y,H1,I1,r1,q1⟩=>?_
  refine thn (ho pins s1 σ H1 v y u w _ I1 r r1 q1) fun z s2 ⟨zv,H2,I2,r2,q2⟩=>?_
  exact mQ I2 hN hi hx r2 (fun s3 I3=>⟨_,H2,I3,q2⟩) hf
 rcases l with⟨hk,hm⟩|⟨hk,c,hc,vw⟩
 ·exact wpAny_loadName_local I.ok.kind hk hn hm go
 rcases hk with hk|hk
 ·exact wpAny_loadName_cell I.ok.kind hk hc vw go
 rcases hx with k|k
 ·have:X.env.scope.names.lookup x=some .free:=hk
  rw[k]at this;cases this
 have:X.env.scope.names.lookup x=some .free:=hk;rw[k]at this;cases this
def _1(f:Int->Int->Int):Q3:=fun x y H Q=>∃ i j,x=.int i/\y=.int j/\Q (.int (f i j)) H
theorem LK:Uw X .Add (_1 fun i j=>i+j):=by
 intro pins s σ H x y v u Q I r1 r2 h;obtain⟨i,j,e1,e2,q⟩:=h;subst e1;subst e2;obtain⟨t,rfl⟩:=r1;obtain⟨t',rfl⟩:=r2;exact iadd_int ⟨.int _,H,I.tok _,⟨_,rfl⟩,q⟩
def LQ(c:TT)(tb:TS):TS:=fun D σ H=>∃ W:Nat->St->Hp->Prop,(∃ m,W m σ H)/\∀ m σ H,W m σ H ->
 c σ H fun b H1=>if b=true then ∃ N:St->Hp->Prop,(∀ σ' H',N σ' H'->∃ m',m'<m/\W m' σ' H')/\tb { D with nx:=N,ct:=N,bk:=D.nx } σ H1 else D.nx σ H1
theorem j7{c:Expr}{tc:TT}{tb:TS}(hp:PassesOwn (model X.prog X.w) X.A X.env X.xe)(hc:PT X c tc)(hb:tF X body tb):PS X (.While c body [] pos) (LQ tc tb):=by
 intro pins s σ H D I h;obtain⟨W,⟨m0,w0⟩,turn⟩:=h;refine wpAny_While (codeAny_whileLoop (fun n s'=>∃ σ' H',Inv X pins σ' H' s'/\W n σ' H') ?_ m0 ⟨σ,H,I,w0⟩);rintro n s1 ⟨σ1,H1,I1,w1⟩;refine gv hp (thn (hc pins s1 σ1 H1 _ I1 (turn n σ1 H1 w1)) fun b s2 ⟨H2,I2,q2⟩=>?_);cases b with
 | true =>
  obtain⟨N,hN,q2⟩:=q2;rw[b6 rfl];refine gv hp (thn (hb pins s2 σ1 H2 _ I2 q2) fun f s3 q3=>?_);cases f with
  | next =>
   obtain⟨σ3,H3,I3,n3⟩:=q3;obtain⟨m',hm,w3⟩:=hN σ3 H3 n3;exact⟨m',hm,σ3,H3,I3,w3⟩
  | cont =>
   obtain⟨σ3,H3,I3,n3⟩:=q3;obtain⟨m',hm,w3⟩:=hN σ3 H3 n3;exact⟨m',hm,σ3,H3,I3,w3⟩
  |brk=>exact q3
  |ret v=>exact q3
 | false =>
  rw[bq gc];exact iO ⟨σ1,H2,I2,q2⟩
structure It where
 go:Nat->Hp->Prop
 ET:Nat->Hp->V->Hp->Prop
 stop:Nat->Hp->Prop
def jf(X:Cx)(pins:List (Addr×Obj))(H:Hp)(b:Addr):Prop :=
 H b=none/\b≠X.env.locals/\b∉X.fs/\(b∈X.ex\/X.s₀.heap.objs.size<=b)/\(∀ x c,X.env.cells.lookup x=some c->c≠b)/\∀ p∈X.pn++pins,p.1≠b
theorem Inv.pw(I:Inv X pins σ H s)(hb:s.heap.objs.size<=b)(hn:H' b=none):jf X pins H' b:=by
 refine⟨hn,Nat.ne_of_gt (a_ I.lt hb),I.RB hb,.inr (fA I.sz hb),fun x c e z=>?_,fun p hp z=>?_⟩
 ·obtain⟨v,q⟩:=I.cell x c e
  exact absurd (a_ q.lt (by rw[z];exact hb)) (cK _)
 exact absurd (a_ (ay (I.pin p hp).1) (by rw[z];exact hb)) (cK _)
structure Turn(P:Program)(w:World)(K:W.Frag)(tg:Expr)(J:It)(fp:List Addr)(it:Addr)(tn:Nat->Heap->Prop):Prop where
 mem:it∈fp
 obj:∀ i h,tn i h->∀ b∈fp,∃ o,h.get? b=some o/\∀ v,o.data≠.cell v
 keep:∀ i h h',tn i h->(∀ b∈fp,∀ o,h.get? b=some o->h'.get? b=some o)->tn i h'
 item:∀(X:Cx),X.prog=P->X.w=w->X.K=K->X.calm=true->∀(i:Nat)(pins:List (Addr×Obj))(s:Shared)(σ:St)(H:Hp)(E:Value->Shared->Prop),Inv X pins σ H s->(∀ b∈fp,jf X pins H b)->tn i s.heap->J.go i H ->
  wpAny (model P w) X.A (pyNext (.ref it)) (fun r s1=>∃ u,r=some u /\
   wpAny (model P w) X.A (letOwnedTupleGo tg (.ref it) u) (fun _ s2=>∃ x H',Inv X pins σ H' s2/\RelV x u/\J.ET i H x H'/\tn (i+1) s2.heap/\∀ b∈fp,H' b=none) E s1) E s
 done:∀(X:Cx),X.prog=P->X.w=w->X.K=K->X.calm=true->∀(i:Nat)(pins:List (Addr×Obj))(s:Shared)(σ:St)(H:Hp)(E:Value->Shared->Prop),Inv X pins σ H s->(∀ b∈fp,jf X pins H b)->tn i s.heap->J.stop i H ->
  wpAny (model P w) X.A (pyNext (.ref it)) (fun r s1=>r=none/\Inv X pins σ H s1) E s
 self:∀(A:Around)(i:Nat)(s:Shared)(Q:Value->Shared->Prop)(E:Value->Shared->Prop),tn i s.heap->Q (.ref it) s->wpAny (model P w) A (pyIter (.ref it)) Q E s
abbrev TI:=St->Hp->(It->Hp->Prop)->Prop
end L2
variable{wi:L2.TI}
namespace L2
open PySem PySem.Spec PyProof.Rows
def ZH(X:Cx)(pins:List (Addr×Obj))(σ:St)(tg:Expr)(R:It->Hp->Prop)(RG:Value)(s2:Shared):Prop :=
 ∃(it:Addr)(fp:List Addr)(tn:Nat->Heap->Prop)(J:It)(H':Hp),RG=.ref it/\Inv X pins σ H' s2/\Turn X.prog X.w X.K tg J fp it tn/\tn 0 s2.heap/\(∀ b∈fp,jf X pins H' b)/\R J H'
def PI(X:Cx)(tg iter:Expr)(wi:TI):Prop :=
 ∀(pins:List (Addr×Obj))(s:Shared)(σ:St)(H:Hp)(R:It->Hp->Prop),Inv X pins σ H s->wi σ H R ->
  wpAny (model X.prog X.w) X.A (eval iter X.env) (fun v s1=>wpAny (model X.prog X.w) X.A (pyIter v) (ZH X pins σ tg R) X.xe s1) X.xe s
theorem vA{M:Model}{o:Obj}{n:String}{vs:Array Value}{Q:Unit->Shared->Prop}(ho:s.heap.get? it=some o)(hc:o.cls=.type n)(hd:o.data=.fields vs)(hn:["enumerate","zip","dict_itemiterator","dict_reverseitemiterator","odict_iterator","itertools.zip_longest","itertools.pairwise"].contains n=false)(hQ:Q () s):wpAny M A (letOwnedTupleGo tg (.ref it) u) Q E s:=by
 unfold letOwnedTupleGo
 cases tg <;> first
  |exact aI hQ
  | (cases u<;>first
    |exact aI hQ
    | (refine ae (wpAny_load ho ?_)
       rw[hc,hd];show wpAny M A (if (["enumerate","zip","dict_itemiterator","dict_reverseitemiterator","odict_iterator","itertools.zip_longest","itertools.pairwise"].contains n&&vs[0]? == some (rawInt _))=true then _ else _) Q E s;rw[bq (by intro h;rw[hn,ES]at h;cases h)]
       exact aI hQ))
def LG(K:W.Frag)(a:Addr):It :=
 ⟨fun i H=>∃ xs x,SqL K H a xs/\xs[i]?=some x,fun i H x H'=>H'=H/\∀ xs,SqL K H a xs->xs[i]?=some x,fun i H=>∃ xs,SqL K H a xs/\xs.length<=i⟩
def Po(K:W.Frag)(a:Addr):It :=
 ⟨fun i H=>∃ xs x,SqT K H a xs/\xs[i]?=some x,fun i H x H'=>H'=H/\∀ xs,SqT K H a xs->xs[i]?=some x,fun i H=>∃ xs,SqT K H a xs/\xs.length<=i⟩
def Pp(lo:Int)(n:Nat):It:=⟨fun i _=>i<n,fun i H x H'=>H'=H/\x=.int (lo+i),fun i _=>n<=i⟩
theorem CN(a it:Addr):Turn P w K tg (LG K a) [it] it (fun i h=>h.IsListIter it a i) where
 mem:=by simp
 obj:=fun i h st b hb=>by
  have e:b=it:=by simpa using hb
  subst e;obtain⟨o,e,c,d⟩:=st;exact⟨o,e,fun v z=>by rw[d]at z;cases z⟩
 keep:=fun i h h' st k=>st.at fun o e=>k it oz o e
 item:=by
  intro X hP hw hK hc i pins s σ H E I hf st hg;subst hP hw hK;obtain⟨xs,x,hq,hx⟩:=hg;obtain⟨its,rv,p,hz⟩:=I.list hq;obtain⟨u,hu,ru⟩:=rv.get hx;obtain⟨f0,f1,f2,f3,f4,f5⟩:=hf it oz;refine wpAny_pyNext_list_item st p.isList (x:=u) (by simpa using hu) fun h' k7 sb=>?_
  have I1:Inv X pins σ H { s with heap:=h' }:=I.turned (t':=s.toks) (fun b o hb e=>(sb.2 b hb).trans e) f0 f1 f3 f4 f5;obtain⟨o,e,c,d⟩:=id k7;exact⟨u,Z,vA (s:={ s with heap:=h' }) e c d odz ⟨x,H,I1,ru,⟨Z,fun ys hy=>by rw[I.rg hy hq];exact hx⟩,k7,fun b hb=>(hf b hb).1⟩⟩
 done:=by
  intro X hP hw hK hc i pins s σ H E I hf st hg;subst hP hw hK;obtain⟨xs,hq,hx⟩:=hg;obtain⟨its,rv,p,hz⟩:=I.list hq;obtain⟨f0,f1,f2,f3,f4,f5⟩:=hf it oz;have hl:=rv.length;exact wpAny_pyNext_list_end (I.ok.hd hc) st p.isList (by simp;exact oo) fun h' eb=>⟨rfl,I.turned (t':=s.toks) (fun b o hb e=>eb b o hb e) f0 f1 f3 f4 f5⟩
 self:=fun _ _ _ _ _ st h=>wpAny_pyIter_listiter st h
theorem Aj(a it:Addr):Turn P w K tg (Po K a) [it] it (fun i h=>h.IsTupleIter it a i) where
 mem:=by simp
 obj:=fun i h st b hb=>by
  have e:b=it:=by simpa using hb
  subst e;obtain⟨o,e,c,d⟩:=st;exact⟨o,e,fun v z=>by rw[d]at z;cases z⟩
 keep:=fun i h h' st k=>st.at fun o e=>k it oz o e
 item:=by
  intro X hP hw hK hc i pins s σ H E I hf st hg;subst hP hw hK;obtain⟨xs,x,hq,hx⟩:=hg;obtain⟨its,rv,p,hz⟩:=I.tuple hq;obtain⟨u,hu,ru⟩:=rv.get hx;obtain⟨f0,f1,f2,f3,f4,f5⟩:=hf it oz;refine wpAny_pyNext_tuple_item st (show s.heap.IsTuple a its.toArray from p) (x:=u) (by simpa using hu) fun h' k7 sb=>?_
  have I1:Inv X pins σ H { s with heap:=h' }:=I.turned (t':=s.toks) (fun b o hb e=>(sb.2 b hb).trans e) f0 f1 f3 f4 f5;obtain⟨o,e,c,d⟩:=id k7;exact⟨u,Z,vA (s:={ s with heap:=h' }) e c d odz ⟨x,H,I1,ru,⟨Z,fun ys hy=>by rw[I.oQ hy hq];exact hx⟩,k7,fun b hb=>(hf b hb).1⟩⟩
 done:=by
  intro X hP hw hK hc i pins s σ H E I hf st hg;subst hP hw hK;obtain⟨xs,hq,hx⟩:=hg;obtain⟨its,rv,p,hz⟩:=I.tuple hq;obtain⟨f0,f1,f2,f3,f4,f5⟩:=hf it oz;have hl:=rv.length;exact wpAny_pyNext_tuple_end (I.ok.hd hc) st (show s.heap.IsTuple a its.toArray from p) (by simp;exact oo) fun h' eb=>⟨rfl,I.turned (t':=s.toks) (fun b o hb e=>eb b o hb e) f0 f1 f3 f4 f5⟩
 self:=fun _ _ _ _ _ st h=>wpAny_pyIter_tupleiter st h
theorem Ak(it:Addr)(lo:Int)(n:Nat):Turn P w K tg (Pp lo n) [it] it (fun i h=>IsRangeIter h it (lo+(i:Nat)*1) ((n:Int)-(i:Nat)) 1) where
 mem:=by simp
 obj := fun i h st b hb=>by
  have e:b=it:=by simpa using hb
  subst e
  exact⟨_,st,fun v z=>by
   have z':Data.fields _=Data.cell v:=z
   cases z'⟩
 keep:=fun i h h' st k=>k it oz _ st
 item:=by
  intro X hP hw hK hc i pins s σ H E I hf st hg;subst hP hw hK;obtain⟨f0,f1,f2,f3,f4,f5⟩:=hf it oz;have W:=Walks.range (prog:=X.prog) (w:=X.w) (I.ok.hd hc) it lo 1 n;refine W.item i s _ _ hg st fun v h' tk hv k7 kk=>?_
  obtain⟨t,rfl⟩:=hv;have I1:Inv X pins σ H { s with heap:=h',toks:=tk }:=I.turned (fun b o hb e=>kk b o (by simpa using hb) e) f0 f1 f3 f4 f5;refine⟨_,Z,vA (s:={ s with heap:=h',toks:=tk }) (n := "range_iterator") k7 rfl rfl odz ⟨.int (lo+i),H,I1,⟨t,?_⟩,⟨Z,Z⟩,k7,fun b hb=>(hf b hb).1⟩⟩;rw[Int.mul_one]
 done:=by
  intro X hP hw hK hc i pins s σ H E I hf st hg;subst hP hw hK;obtain⟨f0,f1,f2,f3,f4,f5⟩:=hf it oz;exact wpAny_pyNext_range_end (I.ok.hd hc) st (by have:n<=i:=hg;exact oo) fun h' eb=>⟨rfl,I.turned (t':=s.toks) (fun b o hb e=>eb b o hb e) f0 f1 f3 f4 f5⟩
 self:=fun _ _ _ _ _ st h=>wpAny_pyIter_rangeiter st h
def Oj(K:W.Frag)(tl:TE):TI:=fun σ H R=>tl σ H fun x H1=>∃ a,x=.ref a/\(∃ xs,SqL K H1 a xs)/\R (LG K a) H1
def PL(K:W.Frag)(tl:TE):TI:=fun σ H R=>tl σ H fun x H1=>∃ a,x=.ref a/\(∃ xs,SqT K H1 a xs)/\R (Po K a) H1
theorem cJ{l:Expr}(hl:PE X l tl):PI X tg l (Oj X.K tl):=by
 intro pins s σ H R I h;refine thn (hl pins s σ H _ I h) fun v s1 ⟨x,H1,I1,r1,q1⟩=>?_
 obtain⟨a,e,⟨xs,hq⟩,q⟩:=q1;subst e;cases r1;obtain⟨its,rv,p,hz⟩:=I1.list hq;refine wpAny_pyIter_list p.isList ?_;refine⟨s1.heap.objs.size,[s1.heap.objs.size],_,_,H1,Z,I1.kept (t':=s1.toks) fun b o e=>Heap.get?_push_of_some _ e,CN a _,⟨_,Heap.get?_push_size _ rfl,Z,Z⟩,fun b hb=>?_,q⟩;have e:b=s1.heap.objs.size:=by simpa using hb
 subst e;exact I1.pw (qnr _) (I1.hok.fresh (qnr _))
theorem LR{l:Expr}(hl:PE X l tl):PI X tg l (PL X.K tl):=by
 intro pins s σ H R I h;refine thn (hl pins s σ H _ I h) fun v s1 ⟨x,H1,I1,r1,q1⟩=>?_
 obtain⟨a,e,⟨xs,hq⟩,q⟩:=q1;subst e;cases r1;obtain⟨its,rv,p,hz⟩:=I1.tuple hq;refine i3 (show s1.heap.IsTuple a its.toArray from p) ?_;refine⟨s1.heap.objs.size,[s1.heap.objs.size],_,_,H1,Z,I1.kept (t':=s1.toks) fun b o e=>Heap.get?_push_of_some _ e,Aj a _,⟨_,Heap.get?_push_size _ rfl,Z,Z⟩,fun b hb=>?_,q⟩;have e:b=s1.heap.objs.size:=by simpa using hb
 subst e;exact I1.pw (qnr _) (I1.hok.fresh (qnr _))
theorem Gj{R:It->Hp->Prop}{hi:Int}{t u v:Tok}{tk:Nat}(I:Inv X pins σ H s)(h1 : -(2^62)<=lo)(h2:lo<2^62)(h3 : -(2^62)<=hi)(h4:hi<2^62)(q:R (Pp lo (hi-lo).toNat) H):wpAny (model X.prog X.w) X.A (pyIter (.ref s.heap.objs.size)) (ZH X pins σ tg R) E { s with heap:=s.heap.push { cls:=.type "range",data:=.fields #[.int lo t,.int hi u,.int 1 v] },toks:=tk }:=by
 refine wpAny_pyIter_range (IsRange.new ..) (small_one h1 h2 h3 h4) ?_;have I1:Inv X pins σ H { s with heap:=s.heap.push { cls:=.type "range",data:=.fields #[.int lo t,.int hi u,.int 1 v] },toks:=tk }:=I.kept fun b o e=>Heap.get?_push_of_some _ e
 refine⟨(s.heap.push { cls:=.type "range",data:=.fields #[.int lo t,.int hi u,.int 1 v] }).objs.size,[(s.heap.push { cls:=.type "range",data:=.fields #[.int lo t,.int hi u,.int 1 v] }).objs.size],_,_,H,rfl,
  I1.kept (t':=tk) fun b o e=>Heap.get?_push_of_some _ e,Ak _ lo (hi-lo).toNat,?_,fun b hb=>?_,q⟩
 ·have e1:lo+((0:Nat):Int)*1=lo:=by simp
  have e2:(((hi-lo).toNat:Nat):Int)-((0:Nat):Int)=Builtin.Range.rangeSize lo hi 1:=by rw[rangeSize_one];split<;>exact oo
  show IsRangeIter _ _ (lo+((0:Nat):Int)*1) ((((hi-lo).toNat:Nat):Int)-((0:Nat):Int)) 1;rw[e1,e2];exact Heap.get?_push_size _ rfl
 have e:b=(s.heap.push { cls:=.type "range",data:=.fields #[.int lo t,.int hi u,.int 1 v] }).objs.size:=by simpa using hb
 subst e;exact I1.pw (qnr _) (I1.hok.fresh (qnr _))
def Jl(ta:TA):TI:=fun σ H R=>ta σ H fun vs H1=>∃ j:Int,vs=[.int j]/\-(2^62)<=j/\j<2^62/\R (Pp 0 j.toNat) H1
theorem CP{a:Expr} {ta:TA}  (hg:Gl X "range") (hm:X.mg "range"=none) (ha:PA X [a] ta) (hs:starEach [a] X.env=[(false,eval a X.env)]:=by rfl):PI X tg (.Call (.Name "range" p) [a] [] pos) (Jl ta):=by
 intro pins s σ H R I h;refine Call_ (j6 I hg hm boot_range (f_ (thn (ha pos pins s σ H _ I h) fun us s1 ⟨vs,H1,I1,r1,q1⟩=>?_) hs rfl));obtain⟨j,e,q1,q2,q⟩:=q1;subst e;cases r1 with
 | cons r rr =>
  cases rr;obtain⟨t,rfl⟩:=r;exact call_range_1 (Gj I1 oo oo q1 q2 (by simpa using q))
def PN(wi:TI)(g:TG)(tb:TS):TS:=fun D σ H=>wi σ H fun J H1=>∃ W:Nat->Nat->St->Hp->Prop,(∃ m,W 0 m σ H1)/\∀ i m σ H,W i m σ H ->
 (J.stop i H/\D.nx σ H)\/(J.go i H/\∃ N:St->Hp->Prop,(∀ σ' H',N σ' H'->∃ m',m'<m/\W (i+1) m' σ' H')/\∀ x H',J.ET i H x H'->g x σ H' fun σ2 H2=>tb { D with nx:=N,ct:=N,bk:=D.nx } σ2 H2)
def j8(fp:List Addr)(h:Heap):List (Addr×Obj):=fp.filterMap fun b=>(h.get? b).map fun o=>(b,o)
theorem jM{o:Obj}(hb:b∈fp)(e:h.get? b=some o):(b,o)∈j8 fp h:=fo.mpr ⟨b,hb,by rw[e];rfl⟩
theorem uo{p:Addr×Obj}(hp:p∈j8 fp h):p.1∈fp/\h.get? p.1=some p.2:=by
 obtain⟨b,hb,e⟩:=fo.mp hp;cases q:h.get? b with
 |none=>rw[q]at e;cases e
 | some o =>
  rw[q]at e;have e':(b,o)=p:=iE e;subst e';exact⟨hb,q⟩
theorem Inv.pinned(I:Inv X pins σ H s)(hf:∀ b∈fp,jf X pins H b)(ho:∀ b∈fp,∃ o,s.heap.get? b=some o/\∀ v,o.data≠.cell v):Inv X (pins++j8 fp s.heap) σ H s :=
 I.ny fun p hp=>(aw.mp hp).elim (fun z=>I.pin p (m_ _ z)) fun z=>by
  obtain⟨hb,e⟩:=uo z;obtain⟨f0,f1,f2,_⟩:=hf p.1 hb;obtain⟨o,e',d⟩:=ho p.1 hb;rw[e]at e';cases e';exact⟨e,f0,f1,f2,d⟩
theorem Inv.lS{pl:List (Addr×Obj)}(I:Inv X (pins++pl) σ H s):Inv X pins σ H s:=I.ny fun p hp=>I.pin p (m_ _ (sN _ hp))
theorem dX{g:TG}{tb:TS}(hp:PassesOwn (model X.prog X.w) X.A X.env X.xe)(hc:X.calm=true)(hi:PI X tg iter wi)(hg:PG X tg g)(hb:tF X body tb)
  (hs:∀ x,foldedSetIterable iter X.env x=pure x:=by intro _;rfl):PS X (.For tg iter body [] pos) (PN wi g tb):=by
 intro pins s σ H D I h;refine wpAny_For (thn (hi pins s σ H _ I h) fun v s1 h1=>thn h1 fun RG s2 h2=>?_) hs;obtain⟨it,fp,tn,J,H2,e,I2,T,PH,f2,W,⟨m0,w0⟩,turn⟩:=h2;subst e;have FV:∀{H':Hp},(∀ b∈fp,H' b=none)->∀ b∈fp,jf X pins H' b:=fun hn b hb=>⟨hn b hb,(f2 b hb).2⟩
 refine codeAny_forLoop_any (fun n s'=>∃ i σ' H',Inv X pins σ' H' s'/\tn i s'.heap/\(∀ b∈fp,H' b=none)/\W i n σ' H') ?_ m0 ⟨0,σ,H2,I2,PH,fun b hb=>(f2 b hb).1,w0⟩;rintro n s3 ⟨i,σ3,H3,I3,LO,NV,w3⟩;rcases turn i n σ3 H3 w3 with⟨stop,qn⟩|⟨go,N,hN,step⟩
 ·refine gv hp (thn (T.done X rfl rfl rfl hc i pins s3 σ3 H3 X.xe I3 (FV NV) LO stop) fun r s4 ⟨hr,I4⟩=>?_)
  subst hr;exact iO ⟨σ3,H3,I4,qn⟩
 refine gv hp (thn (T.item X rfl rfl rfl hc i pins s3 σ3 H3 X.xe I3 (FV NV) LO go) fun r s4 ⟨u,hr,h4⟩=>?_);subst hr;refine gv hp (thn h4 fun _ s5 ⟨x,H5,I5,r5,y5,FX,SU⟩=>?_);have Uy:=I5.pinned (FV SU) (T.obj _ _ FX);refine gv hp (thn (hg _ s5 σ3 H5 x u _ Uy r5 (step x H5 y5)) fun _ s6 ⟨σ6,H6,I6,q6⟩=>?_);refine gv hp (thn (hb _ s6 σ6 H6 _ I6 q6) fun f s7 q7=>?_)
 have again:∀{σ7:St}{H7:Hp},Inv X (pins++j8 fp s5.heap) σ7 H7 s7->N σ7 H7->∃ m,m<n/\∃ i σ' H',Inv X pins σ' H' s7/\tn i s7.heap/\(∀ b∈fp,H' b=none)/\W i m σ' H':=fun {σ7 H7} I7 n7=>by
  obtain⟨m',hm,w7⟩:=hN σ7 H7 n7;refine⟨m',hm,i+1,σ7,H7,I7.lS,T.keep _ _ _ FX fun b hb o e=>(I7.pin (b,o) (m_ _ (m_ _ (jM hb e)))).1,fun b hb=>?_,w7⟩;obtain⟨o,e,d⟩:=T.obj _ _ FX b hb;exact(I7.pin (b,o) (m_ _ (m_ _ (jM hb e)))).2.1
 cases f with
 |next=>obtain⟨σ7,H7,I7,n7⟩:=q7;exact again I7 n7
 |cont=>obtain⟨σ7,H7,I7,n7⟩:=q7;exact again I7 n7
 |brk=>obtain⟨σ7,H7,I7,q7⟩:=q7;exact⟨σ7,H7,I7.lS,q7⟩
 |ret v=>obtain⟨x7,σ7,H7,I7,r7,q7⟩:=q7;exact⟨x7,σ7,H7,I7.lS,r7,q7⟩
theorem fW{g:TG}{tb:TS}(Pv:Nat->St->Hp->Prop)(h0:Pv 0 σ H)(hl:∀ i σ H,i<=xs.length->Pv i σ H->SqL K H a xs)(hs:∀ i x σ H,xs[i]?=some x->Pv i σ H->g x σ H fun σ2 H2=>tb { D with nx:=Pv (i+1),ct:=Pv (i+1),bk:=D.nx } σ2 H2)(hd:∀ σ H,Pv xs.length σ H->D.nx σ H): ∃ W:Nat->Nat->St->Hp->Prop,(∃ m,W 0 m σ H)/\∀ i m σ H,W i m σ H -> ((LG K a).stop i H/\D.nx σ H)\/((LG K a).go i H/\∃ N:St->Hp->Prop,(∀ σ' H',N σ' H'->∃ m',m'<m/\W (i+1) m' σ' H')/\∀ x H',(LG K a).ET i H x H'->g x σ H' fun σ2 H2=>tb { D with nx:=N,ct:=N,bk:=D.nx } σ2 H2):=by
 refine⟨fun i m σ H=>m=xs.length-i/\i<=xs.length/\Pv i σ H,⟨xs.length,oz,mf _,h0⟩,?_⟩;rintro i m σ H ⟨rfl,hi,p⟩;have q:=hl i σ H hi p
 by_cases fE:i<xs.length
 ·refine .inr ⟨⟨xs,xs[i],q,by simp[fE]⟩,Pv (i+1),fun σ' H' p'=>⟨xs.length-(i+1),oo,rfl,fE,p'⟩,fun x H' y=>?_⟩
  obtain⟨e,y⟩:=y;subst e;exact hs i x σ _ (y xs q) p
 have e:i=xs.length:=oo
 subst e;exact .inl ⟨⟨xs,q,qnr _⟩,hd σ H p⟩
theorem JV{g:TG}{tb:TS}(Pv:Nat->St->Hp->Prop)(h0:Pv 0 σ H)(hl:∀ i σ H,i<=xs.length->Pv i σ H->SqT K H a xs)(hs:∀ i x σ H,xs[i]?=some x->Pv i σ H->g x σ H fun σ2 H2=>tb { D with nx:=Pv (i+1),ct:=Pv (i+1),bk:=D.nx } σ2 H2)(hd:∀ σ H,Pv xs.length σ H->D.nx σ H): ∃ W:Nat->Nat->St->Hp->Prop,(∃ m,W 0 m σ H)/\∀ i m σ H,W i m σ H -> ((Po K a).stop i H/\D.nx σ H)\/((Po K a).go i H/\∃ N:St->Hp->Prop,(∀ σ' H',N σ' H'->∃ m',m'<m/\W (i+1) m' σ' H')/\∀ x H',(Po K a).ET i H x H'->g x σ H' fun σ2 H2=>tb { D with nx:=N,ct:=N,bk:=D.nx } σ2 H2):=by
 refine⟨fun i m σ H=>m=xs.length-i/\i<=xs.length/\Pv i σ H,⟨xs.length,oz,mf _,h0⟩,?_⟩;rintro i m σ H ⟨rfl,hi,p⟩;have q:=hl i σ H hi p
 by_cases fE:i<xs.length
 ·refine .inr ⟨⟨xs,xs[i],q,by simp[fE]⟩,Pv (i+1),fun σ' H' p'=>⟨xs.length-(i+1),oo,rfl,fE,p'⟩,fun x H' y=>?_⟩
  obtain⟨e,y⟩:=y;subst e;exact hs i x σ _ (y xs q) p
 have e:i=xs.length:=oo
 subst e;exact .inl ⟨⟨xs,q,qnr _⟩,hd σ H p⟩
abbrev R2:=V->V->Hp->VK->Prop
end L2
variable{r r':L2.R2}
namespace L2
open PySem PySem.Spec PyProof.Rows
def iX(X:Cx)(f:Value->Value->Sem Value)(r:R2):Prop :=
 ∀(pins:List (Addr×Obj))(s:Shared)(σ:St)(H:Hp)(x y:V)(v u:Value)(Q:VK),Inv X pins σ H s->RelV x v->RelV y u->r x y H Q ->
  wpAny (model X.prog X.w) X.A (f v u) (EP X pins σ Q) X.xe s
def T7(X:Cx)(f:Value->Sem Value)(r:V->Hp->VK->Prop):Prop :=
 ∀(pins:List (Addr×Obj))(s:Shared)(σ:St)(H:Hp)(x:V)(v:Value)(Q:VK),Inv X pins σ H s->RelV x v->r x H Q ->
  wpAny (model X.prog X.w) X.A (f v) (EP X pins σ Q) X.xe s
def dN(X:Cx)(f:Value)(r:List V->Hp->VK->Prop):Prop :=
 ∀(pins:List (Addr×Obj))(s:Shared)(σ:St)(H:Hp)(xs:List V)(us:List Value)(Q:VK),Inv X pins σ H s->Vals xs us->r xs H Q ->
  wpAny (model X.prog X.w) X.A (call f us) (EP X pins σ Q) X.xe s
def PP(X:Cx)(r:V->Hp->(Bool->Hp->Prop)->Prop):Prop :=
 ∀(pins:List (Addr×Obj))(s:Shared)(σ:St)(H:Hp)(x:V)(v:Value)(Q:Bool->Hp->Prop),Inv X pins σ H s->RelV x v->r x H Q ->
  wpAny (model X.prog X.w) X.A (truthy v) (TP X pins σ Q) X.xe s
def LN(r:R2)(ta tb:TE):TE:=fun σ H Q=>ta σ H fun x H1=>tb σ H1 fun y H2=>r x y H2 Q
def _u(r:V->Hp->VK->Prop)(ta:TE):TE:=fun σ H Q=>ta σ H fun x H1=>r x H1 Q
inductive rI(C:Int->Int->Prop)(g:Int->Int->V)(x:V)(y:V)(H:Hp)(Q:VK):Prop
 |mk(i j:_)(_:x=.int i)(_:y=.int j)(_:C i j)(_:Q (g i j) H)
inductive BF(g:Int->Int->V)(x:V)(y:V)(H:Hp)(Q:VK):Prop
 |mk(i j:_)(_:x=.int i)(_:y=.int j)(_:Q (g i j) H)
def rU(g:Int->V):V->Hp->VK->Prop:=fun x H Q=>∃ i,x=.int i/\Q (g i) H
section
variable{a b c:Expr}
theorem Gk(ha:PE X a ta)(hb:PE X b tb){R:V->V->Hp->Prop}(I:Inv X pins σ H s)(h:ta σ H fun x H1=>tb σ H1 fun y H2=>R x y H2)  {f:Value->Value->Sem Value}(hf:∀ v u s2 x y H2,Inv X pins σ H2 s2->RelV x v->RelV y u->R x y H2->wpAny (model X.prog X.w) X.A (f v u) Q X.xe s2): wpAny (model X.prog X.w) X.A (eval a X.env) (fun v s₁=>wpAny (model X.prog X.w) X.A (eval b X.env) (fun u s₂=>wpAny (model X.prog X.w) X.A (f v u) Q X.xe s₂) X.xe s₁) X.xe s:=by
 refine thn (ha pins s σ H _ I h) fun v s1 ⟨x,H1,I1,r1,q1⟩=>?_
 refine thn (hb pins s1 σ H1 _ I1 q1) fun u s2 ⟨y,H2,I2,r2,q2⟩=>?_
 exact hf v u s2 x y H2 I2 r1 r2 q2
theorem aD{op:Operator}(ho:iX X (binaryOp op) r)(ha:PE X a ta)(hb:PE X b tb):PE X (.BinOp a op b pos) (LN r ta tb):=by
 intro pins s σ H Q I h;exact wpAny_BinOp (Gk ha hb I h fun v u s2 x y H2 I2 rx ry q=>ho pins s2 σ H2 x y v u Q I2 rx ry q)
theorem mR{op:UnaryOp}{r:V->Hp->VK->Prop}(ho:T7 X (unaryOp op) r)(ha:PE X a ta):PE X (.UnaryOp op a pos) (_u r ta):=by
 intro pins s σ H Q I h;exact UnaryOp_ (thn (ha pins s σ H _ I h) fun v s1 ⟨x,H1,I1,r1,q1⟩=>ho pins s1 σ H1 x v Q I1 r1 q1)
theorem HI{f:Value->Value->Sem Value}{C:Int->Int->Prop}{g:Int->Int->Int}(rule:∀(i j:Int)(t u:Tok)(s:Shared)(Q:Value->Shared->Prop)(E:Value->Shared->Prop),C i j->Q (.int (g i j) s.toks) { s with toks:=s.toks+1 }->wpAny (model X.prog X.w) X.A (f (.int i t) (.int j u)) Q E s): iX X f (rI C fun i j=>.int (g i j)):=by
 intro pins s σ H x y v u Q I rx ry h;obtain⟨i,j,rfl,rfl,hc,q⟩:=h;obtain⟨t,rfl⟩:=rx;obtain⟨t',rfl⟩:=ry;exact rule i j t t' s _ _ hc ⟨.int (g i j),H,I.tok _,⟨_,rfl⟩,q⟩
theorem vR{f:Value->Value->Sem Value}{g:Int->Int->Int}(rule:∀(i j:Int)(t u:Tok)(s:Shared)(Q:Value->Shared->Prop)(E:Value->Shared->Prop),Q (.int (g i j) s.toks) { s with toks:=s.toks+1 }->wpAny (model X.prog X.w) X.A (f (.int i t) (.int j u)) Q E s): iX X f (BF fun i j=>.int (g i j)):=by
 intro pins s σ H x y v u Q I rx ry h;obtain⟨i,j,rfl,rfl,q⟩:=h;obtain⟨t,rfl⟩:=rx;obtain⟨t',rfl⟩:=ry;exact rule i j t t' s _ _ ⟨.int (g i j),H,I.tok _,⟨_,rfl⟩,q⟩
theorem Gm{f:Value->Value->Sem Value}{g:Int->Int->Bool}(rule:∀(i j:Int)(t u:Tok)(s:Shared)(Q:Value->Shared->Prop)(E:Value->Shared->Prop),Q (.bool (g i j)) s->wpAny (model X.prog X.w) X.A (f (.int i t) (.int j u)) Q E s): iX X f (BF fun i j=>.bl (g i j)):=by
 intro pins s σ H x y v u Q I rx ry h;obtain⟨i,j,rfl,rfl,q⟩:=h;obtain⟨t,rfl⟩:=rx;obtain⟨t',rfl⟩:=ry;exact rule i j t t' s _ _ ⟨.bl (g i j),H,I,rfl,q⟩
def PQ(i j:Int):Prop:=0<j/\j<1073741824
def oA(i j:Int):Prop:=0<=j/\j<=1000000/\i.natAbs<2^64
def AX(i j:Int):Prop:=(-(2^64)<i/\i<2^64)\/(-(2^64)<j/\j<2^64)
theorem AX.ok{i j:Int}(h:AX i j):IntMulOk i j:=by
 rcases h with⟨h1,h2⟩|⟨h1,h2⟩
 ·exact .of_left (intBits_le_64 h1 h2)
 exact .of_right (intBits_le_64 h1 h2)
theorem Al(k:Nat):(0:Int)<=2^k:=by
 rw[two_pow_cast];exact ee _
theorem cQ:iX X (binaryOp .Add) (BF fun i j=>.int (i+j)):=vR fun _ _ _ _ _ _ _ q=>add_int q
theorem cW:iX X (binaryOp .Sub) (BF fun i j=>.int (i-j)):=vR fun _ _ _ _ _ _ _ q=>sub_int q
theorem gD:iX X (binaryOp .Mult) (rI AX fun i j=>.int (i*j)):=HI fun _ _ _ _ _ _ _ hc q=>mul_int q hc.ok
theorem gn:iX X (binaryOp .FloorDiv) (rI PQ fun i j=>.int (i/j)):=HI fun i j _ _ _ _ _ hc q=>by
 have h1:(0:Int)<j:=hc.1;have h2:j<1073741824:=hc.2;exact floordiv_int oo (by rw[EO i oo];exact q) (.inl (PyProof.noPylong_small oo))
theorem bZ:iX X (binaryOp .Mod) (rI (fun _ j=>0<j) fun i j=>.int (i%j)):=HI fun i j _ _ _ _ _ hc q=>by
 have h1:(0:Int)<j:=hc;exact mod_int' oo (by rw[Int.fmod_eq_emod_of_nonneg i oo];exact q)
theorem vU:iX X (binaryOp .Pow) (rI oA fun i j=>.int (i^j.toNat)):=HI fun _ _ _ _ _ _ _ hc q=>pow_int_small hc.1 hc.2.1 hc.2.2 q
theorem gm:iX X (binaryOp .LShift) (rI oA fun i j=>.int (i*2^j.toNat)):=HI fun _ _ _ _ _ _ _ hc q=>lshift_int_small hc.1 hc.2.1 hc.2.2 q
theorem my:iX X (binaryOp .RShift) (rI (fun _ j=>0<=j) fun i j=>.int (i/2^j.toNat)):=HI fun i j _ _ _ _ _ hc q =>
 rshift_int hc (by rw[EO i (Al _)];exact q)
theorem eY:iX X (binaryOp .BitAnd) (BF fun i j=>.int (Builtin.bitAnd i j)):=vR fun _ _ _ _ _ _ _ q=>and_int q
theorem mU:iX X (binaryOp .BitOr) (BF fun i j=>.int (Builtin.bitOr i j)):=vR fun _ _ _ _ _ _ _ q=>or_int q
theorem mz:iX X (binaryOp .BitXor) (BF fun i j=>.int (Builtin.bitXor i j)):=vR fun _ _ _ _ _ _ _ q=>xor_int q
theorem _r{f:Value->Sem Value}{g:Int->Int}(rule:∀(i:Int)(t:Tok)(s:Shared)(Q:Value->Shared->Prop)(E:Value->Shared->Prop),Q (.int (g i) s.toks) { s with toks:=s.toks+1 }->wpAny (model X.prog X.w) X.A (f (.int i t)) Q E s): T7 X f (rU fun i=>.int (g i)):=by
 intro pins s σ H x v Q I rx h;obtain⟨i,rfl,q⟩:=h;obtain⟨t,rfl⟩:=rx;exact rule i t s _ _ ⟨.int (g i),H,I.tok _,⟨_,rfl⟩,q⟩
theorem j9:T7 X (unaryOp .USub) (rU fun i=>.int (-i)):=_r fun _ _ _ _ _ q=>neg_int q
end
def Ma:V->V->Bool
 | .non,.non=>true | .non,.int _=>true | .int _,.non=>true | .non,.bl _=>true | .bl _,.non=>true | .non,.str _=>true | .str _,.non=>true
 | .int _,.int _=>true | .bl _,.bl _=>true | .str _,.str _=>true | .byt _,.byt _=>true
 | .int _,.str _=>true | .str _,.int _=>true | .bl _,.str _=>true | .str _,.bl _=>true
 |_,_=>false
def _K:R2:=fun x y H Q=>Ma x y=true/\Q (.bl (decide (x=y))) H
def _J:R2:=fun x y H Q=>Ma x y=true/\Q (.bl (!decide (x=y))) H
theorem yC{i j:Int}:decide (V.int i=V.int j)=(i==j):=by
 rw[kf];simp
theorem CQ{i j:Bool}:decide (V.bl i=V.bl j)=(i==j):=by
 rw[kf];simp
theorem yD{i j:Str}:decide (V.str i=V.str j)=(i==j):=by
 rw[kf];simp
theorem yE{i j:Array UInt8}:decide (V.byt i=V.byt j)=(i.toList==j.toList):=by
 rw[kf];cases i;cases j;simp
section
variable{a b c:Expr}
theorem bH{Q:VK}{k k':Bool}(I:Inv X pins σ H s)(q:Q (.bl k) H)(e:k=k'):EP X pins σ Q (.bool k') s:=by
 subst e;exact⟨.bl k,H,I,Z,q⟩
theorem aU:iX X (compareOp .Eq) _K:=by
 intro pins s σ H x y v u Q I rx ry h;obtain⟨hs,q⟩:=h;cases x with
 | non =>
  cases rx;cases y with
  |non=>cases ry;exact PySem.EqNone.eq_none_none (bH I q oz)
  |bl j=>cases ry;exact PySem.EqNone.eq_none_bool (bH I q oz)
  |int j=>obtain⟨t',rfl⟩:=ry;exact PySem.EqNone.eq_none_int (bH I q oz)
  |str j=>obtain⟨t',rfl⟩:=ry;exact PySem.EqNone.eq_none_str (bH I q oz)
  |_=>exact absurd (show false=true from hs) gc
 | bl i =>
  cases rx;cases y with
  |non=>cases ry;exact PySem.EqNone.eq_bool_none (bH I q oz)
  |bl j=>cases ry;exact eq_bool (bH I q CQ)
  |str j=>obtain⟨t',rfl⟩:=ry;exact PySem.EqMixed.eq_bool_str (bH I q oz)
  |_=>exact absurd (show false=true from hs) gc
 | int i =>
  obtain⟨t,rfl⟩:=rx;cases y with
  |non=>cases ry;exact PySem.EqNone.eq_int_none (bH I q oz)
  |int j=>obtain⟨t',rfl⟩:=ry;exact eq_int (bH I q yC)
  |str j=>obtain⟨t',rfl⟩:=ry;exact PySem.EqMixed.eq_int_str (bH I q oz)
  |_=>exact absurd (show false=true from hs) gc
 | str i =>
  obtain⟨t,rfl⟩:=rx;cases y with
  |non=>cases ry;exact PySem.EqNone.eq_str_none (bH I q oz)
  |bl j=>cases ry;exact PySem.EqMixed.eq_str_bool (bH I q oz)
  |int j=>obtain⟨t',rfl⟩:=ry;exact PySem.EqMixed.eq_str_int (bH I q oz)
  |str j=>obtain⟨t',rfl⟩:=ry;exact eq_str (bH I q yD)
  |_=>exact absurd (show false=true from hs) gc
 | byt i =>
  obtain⟨t,rfl⟩:=rx;cases y with
  |byt j=>obtain⟨t',rfl⟩:=ry;exact W.eq_bytes (bH I q yE)
  |_=>exact absurd (show false=true from hs) gc
 |_=>cases y<;>exact absurd (show false=true from hs) gc
theorem gZ:iX X (compareOp .NotEq) _J:=by
 intro pins s σ H x y v u Q I rx ry h;obtain⟨hs,q⟩:=h;cases x with
 | non =>
  cases rx;cases y with
  |non=>cases ry;exact PySem.EqNone.ne_none_none (bH I q oz)
  |bl j=>cases ry;exact PySem.EqNone.ne_none_bool (bH I q oz)
  |int j=>obtain⟨t',rfl⟩:=ry;exact PySem.EqNone.ne_none_int (bH I q oz)
  |str j=>obtain⟨t',rfl⟩:=ry;exact PySem.EqNone.ne_none_str (bH I q oz)
  |_=>exact absurd (show false=true from hs) gc
 | bl i =>
  cases rx;cases y with
  |non=>cases ry;exact PySem.EqNone.ne_bool_none (bH I q oz)
  |bl j=>cases ry;exact ne_bool (bH I q (bP not CQ))
  |str j=>obtain⟨t',rfl⟩:=ry;exact PySem.EqMixed.ne_bool_str (bH I q oz)
  |_=>exact absurd (show false=true from hs) gc
 | int i =>
  obtain⟨t,rfl⟩:=rx;cases y with
  |non=>cases ry;exact PySem.EqNone.ne_int_none (bH I q oz)
  |int j=>obtain⟨t',rfl⟩:=ry;exact ne_int (bH I q (bP not yC))
  |str j=>obtain⟨t',rfl⟩:=ry;exact PySem.EqMixed.ne_int_str (bH I q oz)
  |_=>exact absurd (show false=true from hs) gc
 | str i =>
  obtain⟨t,rfl⟩:=rx;cases y with
  |non=>cases ry;exact PySem.EqNone.ne_str_none (bH I q oz)
  |bl j=>cases ry;exact PySem.EqMixed.ne_str_bool (bH I q oz)
  |int j=>obtain⟨t',rfl⟩:=ry;exact PySem.EqMixed.ne_str_int (bH I q oz)
  |str j=>obtain⟨t',rfl⟩:=ry;exact ne_str (bH I q (bP not yD))
  |_=>exact absurd (show false=true from hs) gc
 | byt i =>
  obtain⟨t,rfl⟩:=rx;cases y with
  |byt j=>obtain⟨t',rfl⟩:=ry;exact W.ne_bytes (bH I q (bP not yE))
  |_=>exact absurd (show false=true from hs) gc
 |_=>cases y<;>exact absurd (show false=true from hs) gc
theorem mV:iX X (compareOp .Lt) (BF fun i j=>.bl (decide (i<j))):=Gm fun _ _ _ _ _ _ _ q=>lt_int q
theorem pR:iX X (compareOp .LtE) (BF fun i j=>.bl (decide (i<=j))):=Gm fun _ _ _ _ _ _ _ q=>le_int q
theorem mW:iX X (compareOp .Gt) (BF fun i j=>.bl (decide (j<i))):=Gm fun _ _ _ _ _ _ _ q=>gt_int q
theorem gU:iX X (compareOp .Is) (fun x y H Q=>y=.non /\ Q (.bl (decide (x=.non))) H):=by
 intro pins s σ H x y v u Q I rx ry h;obtain⟨rfl,q⟩:=h;cases ry;refine is_none_gen (bH I q ?_)
 cases x<;>first
  |(cases rx;rfl)
  |(obtain⟨t,rfl⟩:=rx;rfl)
theorem JW:iX X (compareOp .IsNot) (fun x y H Q=>y=.non /\ Q (.bl (!decide (x=.non))) H):=by
 intro pins s σ H x y v u Q I rx ry h;obtain⟨rfl,q⟩:=h;cases ry;refine isnot_none_gen (bH I q ?_)
 cases x<;>first
  |(cases rx;rfl)
  |(obtain⟨t,rfl⟩:=rx;rfl)
theorem aH(b:Expr){op:CmpOp}(h:op≠.In:=by decide)(h2:op≠.NotIn:=by decide):behindInMarks op b=false:=by
 have e1:(op==CmpOp.In)=false:=by cases op<;>first|rfl|exact absurd rfl h
 have e2:(op==CmpOp.NotIn)=false:=by cases op<;>first|rfl|exact absurd rfl h2
 cases b<;>simp[behindInMarks,e1,e2]
theorem b8{op:CmpOp}(ho:iX X (compareOp op) r)(ha:PE X a ta)(hb:PE X b tb)(hm:behindInMarks op b=false):PE X (.Compare a [op] [b] pos) (LN r ta tb):=by
 intro pins s σ H Q I h;exact wpAny_Compare1 (Gk ha hb I h fun v u s2 x y H2 I2 rx ry q=>ho pins s2 σ H2 x y v u Q I2 rx ry q) hm
def Jm(t:TE):TT:=fun σ H Q=>t σ H fun x H'=>iB Q x H'
theorem aF{op:CmpOp}(ho:iX X (compareOp op) r)(ha:PE X a ta)(hb:PE X b tb)(hm:behindInMarks op b=false):PT X (.Compare a [op] [b] pos) (Jm (LN r ta tb)):=by
 intro pins s σ H Q I h
 refine wpAny_isTrue_Compare1 (thn (ha pins s σ H _ I h) fun v s1 ⟨x,H1,I1,r1,q1⟩=>thn (hb pins s1 σ H1 _ I1 q1) fun u s2 ⟨y,H2,I2,r2,q2⟩ =>
  thn (ho pins s2 σ H2 x y v u _ I2 r1 r2 q2) fun c s3 ⟨z,H3,I3,r3,k,e,q3⟩=>?_) hm
 subst e;cases r3;exact c6 ⟨H3,I3,q3⟩
def CT(r r':R2)(ta tb tc:TE):TE:=fun σ H Q=>ta σ H fun x H1=>tb σ H1 fun y H2=>r x y H2 fun z H3=>∃ k,z=.bl k /\
 (if k=true then tc σ H3 fun w' H4=>r' y w' H4 Q else Q (.bl false) H3)
theorem qG{op HK:CmpOp}(ho:iX X (compareOp op) r)(sR:iX X (compareOp HK) r')(ha:PE X a ta)(hb:PE X b tb)(hc:PE X c tc)
  (hm:lastMarks [op,HK] [b,c]=false:=by with_unfolding_all rfl):PE X (.Compare a [op,HK] [b,c] pos) (CT r r' ta tb tc):=by
 intro pins s σ H Q I h
 refine Compare_chain (thn (ha pins s σ H _ I h) fun v s1 ⟨x,H1,I1,r1,q1⟩=>chain_link (thn (hb pins s1 σ H1 _ I1 q1) fun u s2 ⟨y,H2,I2,r2,q2⟩ =>
  thn (ho pins s2 σ H2 x y v u _ I2 r1 r2 q2) fun d s3 ⟨z,H3,I3,r3,k,e,q3⟩=>?_)) hm
 subst e;cases r3;refine c6 ?_;cases k with
 |false=>exact ite_ff ⟨.bl false,H3,I3,rfl,q3⟩
 |true=>exact ite_tt (chain_last (thn (hc pins s3 σ H3 _ I3 q3) fun w' s4 ⟨z',H4,I4,r4,q4⟩=>sR pins s4 σ H4 y z' u w' Q I4 r2 r4 q4))
theorem vV{op HK:CmpOp}(ho:iX X (compareOp op) r)(sR:iX X (compareOp HK) r')(ha:PE X a ta)(hb:PE X b tb)(hc:PE X c tc)
  (hm:lastMarks [op,HK] [b,c]=false:=by with_unfolding_all rfl):PT X (.Compare a [op,HK] [b,c] pos) (Jm (CT r r' ta tb tc)):=by
 intro pins s σ H Q I h
 refine isTrue_chain (thn (ha pins s σ H _ I h) fun v s1 ⟨x,H1,I1,r1,q1⟩=>test_link (thn (hb pins s1 σ H1 _ I1 q1) fun u s2 ⟨y,H2,I2,r2,q2⟩ =>
  thn (ho pins s2 σ H2 x y v u _ I2 r1 r2 q2) fun d s3 ⟨z,H3,I3,r3,k,e,q3⟩=>?_)) hm
 subst e;cases r3;refine c6 ?_;cases k with
 | false =>
  obtain⟨k',e',q'⟩:=q3;cases e';exact ite_ff ⟨H3,I3,q'⟩
 | true =>
  refine ite_tt (test_last (thn (hc pins s3 σ H3 _ I3 q3) fun w' s4 ⟨z',H4,I4,r4,q4⟩=>thn (sR pins s4 σ H4 y z' u w' _ I4 r2 r4 q4) fun d' s5 ⟨z2,H5,I5,r5,k2,e2,q5⟩=>?_));subst e2;cases r5;exact c6 ⟨H5,I5,q5⟩
def Mf(K:W.Frag)(x:V)(H:Hp)(k:Bool):Prop :=
 match x with
 | .non=>k=false
 | .bl b=>k=b
 | .int i=>k=(i != 0)
 | .str y=>y.length<=sizeLine/\k=((y.length:Int) != 0)
 | .byt y=>y.size<=sizeLine/\k=((y.size:Int) != 0)
 | .ref p=>(∃ xs,SqL K H p xs/\k = !xs.isEmpty)\/(∃ xs,SqT K H p xs/\k = !xs.isEmpty)\/∃ kvs,H p=some (.dK kvs)/\k = !kvs.isEmpty
 |_=>False
theorem Am{κ:Type}{kvs:List (κ×V)}{vs:List (κ×Value)}(r:KV kvs vs):(!vs.isEmpty) = !kvs.isEmpty:=by
 cases r<;>rfl
theorem rG{its:List Value}(r:Vals xs its):(!its.toArray.isEmpty) = !xs.isEmpty:=by
 cases r<;>simp
theorem mC:(sizeLine:Nat)<2^63:=by rw[sizeLine_eq];decide
theorem Mg:PP X (fun x H Q=>∃ k,Mf X.K x H k/\Q k H):=by
 intro pins s σ H x v Q I rx h;obtain⟨k,e,q⟩:=h;have hl:=mC;have hs:sizeLine=16777216:=sizeLine_eq;cases x with
 | non =>
  cases rx;have e':k=false:=e;subst e';exact truthy_none ⟨H,I,q⟩
 | bl b =>
  cases rx;have e':k=b:=e;subst e';exact c6 ⟨H,I,q⟩
 | int i =>
  obtain⟨t,rfl⟩:=rx;have e':k=(i != 0):=e;subst e';exact PySem.P.truthy_int ⟨H,I,q⟩
 | str y =>
  obtain⟨t,rfl⟩:=rx;obtain⟨hy,e'⟩:y.length<=sizeLine/\k=((y.length:Int) != 0):=e;subst e';exact PySem.P.truthy_str oo ⟨H,I.tok _,q⟩
 | byt y =>
  obtain⟨t,rfl⟩:=rx;obtain⟨hy,e'⟩:y.size<=sizeLine/\k=((y.size:Int) != 0):=e;subst e';exact W.truthy_bytes oo ⟨H,I.tok _,q⟩
 | ref p =>
  cases rx;have e':(∃ xs,SqL X.K H p xs/\k = !xs.isEmpty)\/(∃ xs,SqT X.K H p xs/\k = !xs.isEmpty)\/∃ kvs,H p=some (.dK kvs)/\k = !kvs.isEmpty:=e;rcases e' with⟨xs,hx,e'⟩|⟨xs,hx,e'⟩|⟨kvs,hx,e'⟩
  ·subst e'
   obtain⟨its,r,pl,hz⟩:=I.list hx;have hlen:=r.length;exact wpAny_truthy_list pl.isList (by simp only[ah];exact oo) ⟨H,I.tok _,by rw[rG r];exact q⟩
  ·subst e'
   obtain⟨its,r,pl,hz⟩:=I.tuple hx;have hlen:=r.length;exact truthy_tuple pl (by simp only[ah];exact oo) ⟨H,I.tok _,by rw[rG r];exact q⟩
  subst e';obtain⟨hz,hS,vs,r,m⟩:kvs.length<=sizeLine/\(p==sysModules)=false/\∃ vs,KV kvs vs/\s.heap.DictOf (bL X.prog X.w) p vs:=I.hok p _ hx;have hlen:kvs.length=vs.length:=bg r;exact wpAny_truthy_dict hS m oo ⟨H,I.tok _,by rw[Am r];exact q⟩
 |_=>exact(show False from e).elim
theorem ig(ha:PE X a ta)(he:∀ whole,isTrue a X.env whole=(do let v <- whole;standAt a.pos;holding [v] (truthy v))):
  PT X a (fun σ H Q=>ta σ H fun x H'=>∃ k,Mf X.K x H' k/\Q k H'):=by
 intro pins s σ H Q I h;exact isTrue_plain (thn (ha pins s σ H _ I h) fun v s1 ⟨x,H1,I1,r1,q1⟩=>Mg pins s1 σ H1 x v Q I1 r1 q1) (he _)
theorem bh:iX X (binaryOp .Add) (fun x y H Q=>∃ i j,x=.str i/\y=.str j/\i.length+j.length<=sizeLine/\Q (.str (i++j)) H):=by
 intro pins s σ H x y v u Q I rx ry h;obtain⟨i,j,rfl,rfl,hz,q⟩:=h;obtain⟨t,rfl⟩:=rx;obtain⟨t',rfl⟩:=ry;exact add_str (fun t' tk=>⟨.str (i++j),H,I.tok _,⟨_,rfl⟩,q⟩) hz
theorem yc:iX X (inplaceOp .Add) (fun x y H Q=>∃ i j,x=.str i/\y=.str j/\i.length+j.length<=sizeLine/\Q (.str (i++j)) H):=by
 intro pins s σ H x y v u Q I rx ry h;obtain⟨i,j,rfl,rfl,hz,q⟩:=h;obtain⟨t,rfl⟩:=rx;obtain⟨t',rfl⟩:=ry;exact iadd_str (fun t' tk=>⟨.str (i++j),H,I.tok _,⟨_,rfl⟩,q⟩) hz
theorem vals1{x:V}(r:Vals [x] us):∃ u,us=[u]/\RelV x u:=by
 cases r with
 |cons r1 r2=>cases r2;exact⟨_,Z,r1⟩
theorem vals2{x:V}(r:Vals [x,y] us):∃ u w',us=[u,w']/\RelV x u/\RelV y w':=by
 cases r with
 | cons r1 r2 =>
  cases r2 with
  |cons r3 r4=>cases r4;exact⟨_,_,Z,r1,r3⟩
theorem uq(hc:X.calm=true):dN X (.builtin "max") (fun xs H Q=>∃ i j,xs=[.int i,.int j]/\Q (.int (if j>i then j else i)) H):=by
 intro pins s σ H xs us Q I r h;obtain⟨i,j,rfl,q⟩:=h;obtain⟨u,w',rfl,⟨t,rfl⟩,⟨t',rfl⟩⟩:=vals2 r;refine max_two_ints (I.ok.hd hc) fun h' tk k=>⟨_,H,I.kept k,?_,q⟩
 by_cases hj:j>i
 ·rw[b6 hj,b6 hj];exact⟨_,Z⟩
 rw[bq hj,bq hj];exact⟨_,Z⟩
theorem ut:dN X (.type "int") (fun xs H Q=>(∃ i,xs=[.int i]/\Q (.int i) H)\/∃ k,xs=[.bl k]/\Q (.int (if k then 1 else 0)) H):=by
 intro pins s σ H xs us Q I r h;rcases h with⟨i,rfl,q⟩|⟨k,rfl,q⟩
 ·obtain⟨u,rfl,t,rfl⟩:=vals1 r
  exact call_int_int ⟨.int i,H,I,⟨_,rfl⟩,q⟩
 obtain⟨u,rfl,r1⟩:=vals1 r;cases r1;exact call_int_bool ⟨.int (if k then 1 else 0),H,I.tok _,⟨_,rfl⟩,q⟩
end
structure tI(h:Heap)(x dx C:Addr)(mA:Str->Option Value):Prop where
 obj:h.get? x=some (W.instObj C dx)
 ns:h.Ns1 dx mA
 ne:dx≠x
theorem CV(n:h.Ns1 dx mA):∃ od,h.get? dx=some od/\∀ name,W.lookIn name od=some (mA name):=by
 obtain⟨o,es,ep,ho,hd,hk,_,hm⟩:=n;refine⟨o,ho,fun name=>?_⟩;have e:=hm name;unfold nsFind findBy at e;rw[<- Array.find?_toList]at e;unfold W.lookIn;rw[hd];dsimp only
 split
 ·rename_i y q
  rw[q]at e;exact bP some e
 rename_i q
 rw[q]at e
 have a:es.toList.any (·.refKey)=false:=by
  rw[List.any_eq_false];intro y hy;obtain⟨z,t,Sn⟩:=hk y (Array.mem_toList_iff.mp hy);simp[DictEntry.refKey,Sn]
 have a':¬es.toList.any (·.refKey)=true:=by rw[a];exact gc
 rw[bq a'];exact bP some e
theorem tI.look{x:Addr}(I:tI h x dx C mA):∃ od,W.InstAt h x (W.instObj C dx) C (some od)/\∀ name,W.lookIn name od=some (mA name):=
 let ⟨od,ho,hl⟩:=CV I.ns
 ⟨od,⟨I.obj,rfl,rfl,ho⟩,hl⟩
section
variable{x:Addr}{v:Value}
theorem JX{expr:Bool}(X:K.In s.heap)(I:tI s.heap x dx C mA)(hg:W.plainGet K C name=true)(hh:W.hasDictIn K C=true)(ha:W.findIn K (.ref C) name=some none)(hv:mA name=some v)(hv':W.handedIn v=true)(h:Q v { s with toks:=s.toks+1 }): wpAny (model prog w) A (getAttr (.ref x) name expr) Q E s:=by
 obtain⟨od,J,hl⟩:=I.look;exact W.get_value X J (W.plainGet_of hg).1 (W.findObj_own hh ha rfl (by rw[hl,hv])) hv' h
theorem Gn{pl:Sem Bool}{Q:Value×List Value->Shared->Prop}(X:K.In s.heap)(I:tI s.heap x dx C mA)(hg:W.plainGet K C name=true)(hf:W.findIn K (.ref C) name=some (some (.ref f)))(ht:W.isFn K (.ref f)=true)(hv:mA name=none)(h:Q (.ref f,[.ref x]) s): wpAny (model prog w) A (getMethod (.ref x) name pl) Q E s:=by
 obtain⟨od,J,hl⟩:=I.look;exact W.method_fn X J (W.plainGet_of hg).1 (W.plainGet_of hg).2 hf (i'.mp ht) (by show(W.lookIn name od).map (·.isSome)=some false;rw[hl,hv];rfl) h
theorem JZ{Q:Unit->Shared->Prop}(X:K.In s.heap)(I:tI s.heap x dx C mA)(hs:W.findIn K (.ref C) "__setattr__"=some (some (.builtin "object.__setattr__")))(hp:W.plainOver K C=true)(ht:W.takerIn K C name=some none)(hh:W.hasDictIn K C=true)(hw:PySem.Within mA ns)(hsz:ns.length<=sizeLine)(h:∀ h',tI h' x dx C (fun y=>if y=name then some v else mA y)->Heap.SameBut dx s.heap h'->Q () { s with heap:=h',toks:=s.toks+2 }): wpAny (model prog w) A (setAttr (.ref x) name v) Q E s:=by
 obtain⟨od,J,hl⟩:=I.look;refine W.set_plain X J hs (W.osa_open (s:={ s with toks:=s.toks+1 }) (r:=none) X J hp ht fun b=>?_);obtain⟨cd,hc,rV⟩:=W.any_some hh;have hx:s.heap.get? x=some ⟨.ref C,some dx,.plain,#[]⟩:=I.obj;refine ae (aI (ae (ae (wpAny_loadPart hx (ae (W.Looks.here (s:={ s with toks:=s.toks+1 }) (W.looks_clsIn X hc) ?_))))));rw[rV];refine aI (a:=some dx) (ae (aI (ae ?_)));refine wpAny_nsSet1 (s:={ s with toks:=s.toks+1 }) I.ns fun h' rp RU=>?_
 obtain⟨oD,esD,epD,hoD,hdD,hcD⟩:=rp.count (PySem.Within.cons name v hw);refine ae (wpAny_lookBehind hoD (by rw[hdD];exact pastItsLine_dict (fA hcD (by rw[bp];exact oo))) ?_);exact aI (h _ ⟨(RU.2 _ (ba I.ne)).trans I.obj,rp,I.ne⟩ RU)
theorem Gp(X:K.In s.heap)(hm:W.makesIn K C=true)
  (hi:W.findIn K (.ref C) "__init__"=some (some (.ref f))) (hf:W.typeIn K (.ref f)=some (.type "function"))
  (h:codeAny (model prog w) (A.under (.builtin "type.__call__" ⟨.ref C::vs,kw⟩)) (.call (.ref f) ⟨.ref (s.heap.objs.size+1):: vs,kw⟩) (W.InitBack (s.heap.objs.size+1) R)
   { s with heap:=(s.heap.push W.emptyDict).push (W.instObj C s.heap.objs.size) }):
  codeAny (model prog w) A (.call (.ref C) ⟨vs,kw⟩) R s:=by
 obtain⟨hh,g,d,t,os⟩:=s;exact W.make_core (W.makes_of X hm) (W.looks_findIn X hi) (fun self=>W.bind_fn X self hf) (.inl rfl) h
end
def bc(f:Str)(v:V):List (Str×V)->List (Str×V)
 |[]=>[(f,v)]
 |(g,x):: r=>if g=f then(g,v):: r else(g,x):: bc f v r
theorem bC(f g:Str)(v:V):∀ fs:List (Str×V),(bc f v fs).lookup g=if g=f then some v else fs.lookup g
 | []=>by
  show List.lookup g [(f,v)]=_
  by_cases h:g=f
  ·have hb:(g==f)=true:=i'.mpr h
   simp only[List.lookup,hb,b6 h]
  have hb:(g==f)=false:=gX.mpr h;simp only[List.lookup,hb,bq h]
 | (k, x):: r=>by
  have ih:=bC f g v r;rw[show bc f v ((k,x):: r)=(if k=f then(k,v):: r else(k,x):: bc f v r)from rfl]
  by_cases hk:k=f
  ·rw[b6 hk]
   by_cases h:g=k
   ·have hb:(g==k)=true:=i'.mpr h
    simp only[List.lookup,hb,b6 (h.trans hk)]
   have hb:(g==k)=false:=gX.mpr h;simp only[List.lookup,hb,bq (fun e:g=f=>h (e.trans hk.symm))]
  rw[bq hk]
  by_cases h:g=k
  ·have hb:(g==k)=true:=i'.mpr h
   simp only[List.lookup,hb,bq (fun e:g=f=>hk (h.symm.trans e))]
  have hb:(g==k)=false:=gX.mpr h;simp only[List.lookup,hb];exact ih
theorem oE(f:Str)(v:V):∀ fs:List (Str×V),f∈(bc f v fs).map (·.1)/\∀ g,g∈fs.map (·.1)->g∈(bc f v fs).map (·.1)
 |[]=>⟨by simp[bc],fun g h=>by simp at h⟩
 | (k,x):: r=>by
  obtain⟨i1,i2⟩:=oE f v r;rw[show bc f v ((k,x):: r)=(if k=f then(k,v):: r else(k,x):: bc f v r)from rfl]
  by_cases hk:k=f
  ·rw[b6 hk]
   subst hk;exact⟨oz,fun g h=>by simpa using h⟩
  rw[bq hk];refine⟨?_,fun g h=>?_⟩
  ·rw[b3]
   exact k8 _ i1
  rw[b3]at h ⊢;rcases av.mp h with e|e
  ·exact av.mpr (.inl e)
  exact k8 _ (i2 g e)
theorem ql(f:Str)(v:V):∀ fs:List (Str×V),(bc f v fs).length <= fs.length+1
 |[]=>by simp[bc]
 | (k,x):: r=>by
  have ih:=ql f v r;rw[show bc f v ((k,x):: r)=(if k=f then(k,v):: r else(k,x):: bc f v r)from rfl]
  by_cases hk:k=f
  ·rw[b6 hk,bp,bp];exact oo
  rw[bq hk,bp,bp];exact oo
theorem kq.some_of{o:Option Value}(r:kq (some v) o):∃ u,o=some u/\RelV v u:=by
 cases o with
 |none=>exact(show False from r).elim
 |some u=>exact⟨u,Z,r⟩
theorem kq.none_of{o:Option Value}(r:kq none o):o=none:=by
 cases o with
 |none=>rfl
 |some u=>exact(show False from r).elim
theorem CW(r:RelV v u):W.handedIn u=true:=by
 cases v with
 |non=>cases(show u=Value.none from r);rfl
 |bl b=>cases(show u=Value.bool b from r);rfl
 |int i=>obtain⟨t,e⟩:=(show ∃ t,u=Value.int i t from r);cases e;rfl
 |str x=>obtain⟨t,e⟩:=(show ∃ t,u=Value.str x t from r);cases e;rfl
 |byt b=>obtain⟨t,e⟩:=(show ∃ t,u=Value.bytes b t from r);cases e;rfl
 |flt b=>obtain⟨t,e⟩:=(show ∃ t,u=Value.float b t from r);cases e;rfl
 |ref a=>cases(show u=Value.ref a from r);rfl
 |ty n=>cases(show u=Value.type n from r);rfl
section
variable{fs fs':List (Str×V)}
theorem pU(hok:kK P w H h)(e:H a=some (.ins C dx fs)):∃ mA,tI h a dx C mA/\(∀ f,kq (fs.lookup f) (mA f))/\PySem.Within mA (fs.map (·.1))/\fs.length<=1000/\H dx=some (.own a):=by
 obtain⟨d,z,ne,ob,mA,n,r,q⟩:=(show eM P w H h a (.ins C dx fs)from hok a _ e)
 exact⟨mA,⟨ob,n,ne⟩,r,q,z,d⟩
end
structure tS(K:W.Frag)(C:Addr):Prop where
 pg:W.plainGet K C Str.empty=true
 hd:W.hasDictIn K C=true
 po:W.plainOver K C=true
 sa:W.findIn K (.ref C) "__setattr__"=some (some (.builtin "object.__setattr__"))
theorem tS.get(c:tS K C)(f:Str):W.plainGet K C f=true:=c.pg
def gd(K:W.Frag)(C:Addr)(f:Str):Prop:=W.findIn K (.ref C) f=some none
theorem gd.LL{f:Str}(n:gd K C f):W.takerIn K C f=some none:=by
 unfold W.takerIn;rw[show W.findIn K (.ref C) f=some none from n]
 rfl
structure Meth(K:W.Frag)(C:Addr)(m:Str)(f:Addr):Prop where
 at_:W.findIn K (.ref C) m=some (some (.ref f))
 fn:W.isFn K (.ref f)=true
 kp:W.keepIn K (.ref f)=true
section
variable{fs:List (Str×V)}{f:Str}
theorem An{b:Bool}(I:Inv X pins σ H s)(e:H a=some (.ins C dx fs))(c:tS X.K C)(n:gd X.K C f)(l:fs.lookup f=some v)(h:∀ u s',Inv X pins σ H s'->RelV v u->Q u s'):wpAny (model X.prog X.w) A (getAttr (.ref a) f b) Q E s:=by
 obtain⟨mA,O,r,_,_,_⟩:=pU I.hok e;obtain⟨u,hu,ru⟩:=kq.some_of (v:=v) (o:=mA f) (by rw[<- l];exact r f);exact JX I.kIn O (c.get f) c.hd n hu (CW ru) (h u _ (I.tok _) ru)
theorem rH{g:Addr}{pl:Sem Bool}{Q:Value×List Value->Shared->Prop}(I:Inv X pins σ H s)(e:H a=some (.ins C dx fs))(c:tS X.K C)(k:Meth X.K C m g)(l:fs.lookup m=none)(h:Q (.ref g,[.ref a]) s):wpAny (model X.prog X.w) A (getMethod (.ref a) m pl) Q E s:=by
 obtain⟨mA,O,r,_,_,_⟩:=pU I.hok e;have hn:mA m=none:=kq.none_of (by rw[<- l];exact r m);exact Gn I.kIn O (c.get m) k.at_ k.fn hn h
theorem Ao{Q:Unit->Shared->Prop}(I:Inv X pins σ H s)(e:H a=some (.ins C dx fs))(c:tS X.K C)(n:gd X.K C f)(hl:fs.length<1000)(ry:RelV y u)(h:∀ s',Inv X pins σ (upd H a (.ins C dx (bc f y fs))) s'->Q () s'):wpAny (model X.prog X.w) A (setAttr (.ref a) f u) Q E s:=by
 obtain⟨mA,O,r,wi,_,ho⟩:=pU I.hok e;have hz:(fs.map (·.1)).length <= sizeLine:=by rw[dS,sizeLine_eq];exact oo
 refine JZ I.kIn O c.sa c.po n.LL c.hd wi hz fun h' O' sb=>h _ ?_
 have hd:∃ o,h'.get? dx=some o:=let ⟨o,_,_,e',_⟩:=O'.ns;⟨o,e'⟩;refine I.write (x:=a) (e:=dx) (by rw[e];exact True.intro) (.inr ho) (fun b q hb z=>(sb.2 b hb).trans z) hd ?_;refine⟨by rw[aG O.ne];exact ho,?_,O.ne,O'.obj,_,O'.ns,fun g=>?_,fun g hg=>?_⟩
 ·have:=ql f y fs;exact oo
 ·show kq ((bc f y fs).lookup g) (if g=f then some u else mA g)
  rw[bC]
  by_cases q:g=f
  ·rw[b6 q,b6 q];exact ry
  rw[bq q,bq q];exact r g
 by_cases q:g=f
 ·rw[q];exact(oE f y fs).1
 refine(oE f y fs).2 g (wi g fun z=>hg ?_);show(if g=f then some u else mA g)=none;rw[bq q];exact z
theorem Inv.made(I:Inv X pins σ H s):Inv X pins σ (upd (upd H s.heap.objs.size (.own (s.heap.objs.size+1))) (s.heap.objs.size+1) (.ins C s.heap.objs.size [])) { s with heap:=(s.heap.push W.emptyDict).push (W.instObj C s.heap.objs.size) }:=by
 have e1:(s.heap.push W.emptyDict).get? s.heap.objs.size=some W.emptyDict:=Heap.get?_push_size s.heap rfl
 have e2:((s.heap.push W.emptyDict).push (W.instObj C s.heap.objs.size)).get? (s.heap.objs.size+1)=some (W.instObj C s.heap.objs.size):=by
  have:=Heap.get?_push_size (s.heap.push W.emptyDict) (o:=W.instObj C s.heap.objs.size) rfl
  rwa [j']at this
 have e3:(s.heap.push W.emptyDict).Ns s.heap.objs.size (fun _=>none):=⟨W.emptyDict,#[],_,e1,rfl,(fun e he=>absurd he oz),fun _=>rfl⟩
 have I1:=I.laid (a:=s.heap.objs.size) (o:=.own (s.heap.objs.size+1)) (h':=s.heap.push W.emptyDict) (t':=s.toks) (fun b u q=>Heap.get?_push_of_some _ q) (qnr _) ⟨_,e1⟩;refine I1.laid (a:=s.heap.objs.size+1) (o:=.ins C s.heap.objs.size []) (t':=s.toks) (fun b u q=>Heap.get?_push_of_some _ q) (ua (j' _ _)) ?_;have ne:s.heap.objs.size≠s.heap.objs.size+1:=b4 (mT _);refine⟨by rw[aG ne,au],mf _,ne,e2,fun _=>none,(Heap.Ns1.of_empty e3).at fun o q=>Heap.get?_push_of_some _ q,fun _=>True.intro,fun y hy=>absurd rfl hy⟩
theorem J0(hb:attributeBase e f env (eval e env)=eval e env)(h:wpAny (model prog w) A (eval e env) (fun o s₁=>wpAny (model prog w) A (getAttr o f true) Q E s₁) E s):wpAny (model prog w) A (eval (.Attribute e f pos) env) Q E s :=
 Attribute_any_ h (by rw[arm_eval_Attribute,hb])
end
inductive RJ(K:W.Frag)(f:Str)(Q:VK)(x:V)(H:Hp):Prop
 |mk(a C dx:Addr)(fs:List (Str×V))(v:V)(_:x=.ref a)(_:H a=some (.ins C dx fs))(_:tS K C)(_:gd K C f)(_:fs.lookup f=some v)(_:Q v H)
def PX(K:W.Frag)(ta:TE)(f:Str):TE:=fun σ H Q=>ta σ H fun x H1=>RJ K f Q x H1
def Qa(K:W.Frag)(ta tv:TE)(f:Str):TS:=fun D σ H=>tv σ H fun y H1=>ta σ H1 fun x H2=>∃ a C dx fs,x=.ref a/\H2 a=some (.ins C dx fs)/\tS K C/\gd K C f/\fs.length<1000 /\
 D.nx σ (upd H2 a (.ins C dx (bc f y fs)))
section
variable{o:Expr}{f:Str}
theorem bM(he:PE X e ta)(hb:attributeBase e f X.env (eval e X.env)=eval e X.env):PE X (.Attribute e f pos) (PX X.K ta f):=by
 intro pins s σ H Q I h;refine J0 hb (thn (he pins s σ H _ I h) fun u s1 ⟨x,H1,I1,rx,a,C,dx,fs,v,ex,ea,c,n,l,q⟩=>?_);subst ex;obtain rfl:u=Value.ref a:=rx;exact An I1 ea c n l fun u' s2 I2 ru=>⟨v,H1,I2,ru,q⟩
theorem iQ(ha:PE X o ta)(hv:PE X value tv)(hs:swapsWith value (some (.Attribute o f pos')) pos.line X.env=pure false):PS X (.Assign [.Attribute o f pos'] value pos) (Qa X.K ta tv f):=by
 intro pins s σ H D I h;refine plainObj_wpAny_Assign_Attribute (thn (hv pins s σ H _ I h) fun u s1 ⟨y,H1,I1,ry,q⟩=>thn (ha pins s1 σ H1 _ I1 q) fun ov s2 ⟨x,H2,I2,rx,a,C,dx,fs,ex,ea,c,n,l,q2⟩=>?_) hs;subst ex;obtain rfl:ov=Value.ref a:=rx;exact Ao I2 ea c n l ry fun s3 I3=>⟨σ,_,I3,q2⟩
end
section
variable{c:Value}{b:Bool}
inductive mr(K:W.Frag)(H:Hp):V->Value->Prop where
 |non:mr K H .non (.type "NoneType")
 |bl (x:Bool):mr K H (.bl x) (.type "bool")
 |int (i:Int):mr K H (.int i) (.type "int")
 |str (x:Str):mr K H (.str x) (.type "str")
 |flt (x:UInt64):mr K H (.flt x) (.type "float")
 |lst {a:Addr} {xs:List V} (e:H a=some (.lst xs)):mr K H (.ref a) (.type "list")
 |rX {a:Addr} {o:Obj} {xs:List V} (e:H a=some (.rX o (.lst xs))):mr K H (.ref a) (.type "list")
 |tup {a:Addr} {xs:List V} (e:H a=some (.tup xs)):mr K H (.ref a) (.type "tuple")
 |dK {a:Addr} {kvs:List (Key×V)} (e:H a=some (.dK kvs)):mr K H (.ref a) (.type "dict")
 |dT {a:Addr} {kvs:List (List Key×V)} (e:H a=some (.dT kvs)):mr K H (.ref a) (.type "dict")
 | ins {a C dx:Addr} {fs:List (Str×V)} (e:H a=some (.ins C dx fs)) (cl:tS K C) (ha:W.findIn K (.ref C) "__class__"=some (some (.builtin "object.__class__")))
   (hn:W.specialIn K (.builtin "object.__class__") "__get__"=some (some (.builtin "getset_descriptor.__get__"))) (Vh:W.takesIn K (.builtin "object.__class__")=some true)
   (hm:W.mroIn K C (.type "object")=some true):mr K H (.ref a) (.ref C)
theorem CZ{x:V}{t:Value}(I:Inv X pins σ H s)(rx:RelV x u)(ty:mr X.K H x t)(e:W.kitOne X.K t c=some b)(h:∀ tk,Q (.bool b) { s with toks:=tk }): wpAny (model X.prog X.w) A (call (.builtin "isinstance") [u,c]) Q E s:=by
 cases ty with
 |non=>cases(show u=Value.none from rx);exact ij W.kitx_none I.kIn True.intro e (fun z=>nomatch z) h
 |bl y=>cases(show u=Value.bool y from rx);exact ij W.kitx_bool I.kIn True.intro e (fun z=>nomatch z) h
 |int i=>obtain⟨t,q⟩:=(show ∃ t,u=Value.int i t from rx);cases q;exact ij W.kitx_int I.kIn True.intro e (fun z=>nomatch z) h
 |str y=>obtain⟨t,q⟩:=(show ∃ t,u=Value.str y t from rx);cases q;exact ij W.kitx_str I.kIn True.intro e (fun z=>nomatch z) h
 |flt y=>obtain⟨t,q⟩:=(show ∃ t,u=Value.float y t from rx);cases q;exact ij W.kitx_float I.kIn True.intro e (fun z=>nomatch z) h
 | @lst a xs ea =>
  cases(show u=Value.ref a from rx);obtain⟨_,_,n,_,h1⟩:=(show eM X.prog X.w H s.heap a (.lst xs)from I.hok a _ ea)
  exact ij W.kitx_list I.kIn ⟨_,h1,rfl⟩ e (fun z=>nomatch z) h
 | @rX a ob xs ea =>
  cases(show u=Value.ref a from rx);obtain⟨_,_,_,n,_,h1⟩:=(show eM X.prog X.w H s.heap a (.rX ob (.lst xs))from I.hok a _ ea)
  exact ij W.kitx_list I.kIn ⟨_,h1,rfl⟩ e (fun z=>nomatch z) h
 | @tup a xs ea =>
  cases(show u=Value.ref a from rx);obtain⟨_,_,_,p⟩:=(show eM X.prog X.w H s.heap a (.tup xs)from I.hok a _ ea)
  obtain⟨o,h1,h2,_⟩:=p;exact ij W.kitx_tuple I.kIn ⟨o,h1,h2⟩ e (fun z=>nomatch z) h
 | @dK a kvs ea =>
  cases(show u=Value.ref a from rx);obtain⟨_,_,vs,_,p⟩:=(show eM X.prog X.w H s.heap a (.dK kvs)from I.hok a _ ea)
  obtain⟨o,es,ep,h1,h2,_⟩:=p;exact ij W.kitx_dict I.kIn ⟨o,h1,h2.1⟩ e (fun z=>nomatch z) h
 | @dT a kvs ea =>
  cases(show u=Value.ref a from rx);obtain⟨_,_,xs,_,o,es,ep,h1,h2,_⟩:=(show eM X.prog X.w H s.heap a (.dT kvs)from I.hok a _ ea)
  exact ij W.kitx_dict I.kIn ⟨o,h1,h2.1⟩ e (fun z=>nomatch z) h
 | @ins a C dx fs ea cl ha hn Vh hm =>
  cases(show u=Value.ref a from rx);obtain⟨mA,O,_⟩:=pU I.hok ea;obtain⟨od,J,_⟩:=O.look;exact ij (W.kitx_own (cl.get _) cl.hd ha hn Vh hm) I.kIn J e (fun z=>nomatch z) h
end
structure eW(k:Nat)(A:Around):Prop where
 hd:A.handled=none
 dp:A.depth+3*k+5<recursionLimit
 un:A.units+16*k+200<cLine
theorem eW.mono{k:Nat}(r:eW k A)(h:j<=k):eW j A:=⟨r.hd,by have:=r.dp;exact oo,by have:=r.un;exact oo⟩
theorem eW.deeper{k:Nat}(r:eW (k+1) A)(env:Env):eW k (A.deeper env):=
 ⟨r.hd,by have:=r.dp;show A.depth+1+3*k+5<_;exact oo,by have:=r.un;show A.units+3+16*k+200<_;exact oo⟩
theorem Aq:(A.under (.builtin "type.__call__" ⟨.ref C::us,kw⟩)).depth=A.depth+1:=by
 first|rfl|simp[Around.under,Code.weight,Code.isCreation,Code.isGuard,Code.isCaller,Code.frames,Code.isFrame,guardIds]
theorem Ar:(A.under (.builtin "type.__call__" ⟨.ref C::us,kw⟩)).units=A.units+1:=by
 first|rfl|simp[Around.under,Code.cUnits,Code.frames,Code.isFrame]
theorem eW.make{k:Nat}(r:eW (k+1) A)(C:Addr)(us:List Value)(kw:List (Str×Value)):eW k (A.under (.builtin "type.__call__" ⟨.ref C::us,kw⟩)):=
 ⟨r.hd,by have:=r.dp;rw[Aq];exact oo,by have:=r.un;rw[Ar];exact oo⟩
theorem eW.depth{k:Nat}(r:eW k A):A.depth<recursionLimit:=by have:=r.dp;exact oo
theorem eW.units{k:Nat}(r:eW k A):A.units+64<cLine:=by have:=r.un;exact oo
def oF:TA:=fun _ H Q=>Q [] H
def vB(ta:TE)(tr:TA):TA:=fun σ H Q=>ta σ H fun x H1=>tr σ H1 fun xs H2=>Q (x::xs) H2
section
variable{t:TA}
theorem aj:PA X [] oF:=fun _ _ _ _ H Q I h=>Calls.spliced_nil ⟨[],H,I,.nil,h⟩
theorem aa(ha:PE X e te)(hr:PA X es t)(hs:starEach (e::es) X.env=(false,eval e X.env):: starEach es X.env:=by rfl):PA X (e::es) (vB te t):=by
 intro pos pins s σ H Q I h;rw[hs];show wpAny _ _ (spliced ((false,eval e X.env):: backTo pos (starEach es X.env))) _ _ s;refine Calls.spliced_cons (thn (ha pins s σ H _ I h) fun u s1 ⟨x,H1,I1,r1,q1⟩=>?_);exact thn (hr pos pins s1 σ H1 _ I1 q1) fun us s2 ⟨xs,H2,I2,r2,q2⟩=>⟨x::xs,H2,I2,.cons r1 r2,q2⟩
def Qc(t:TA):TE:=fun σ H Q=>t σ H fun xs H1=>xs.length<=sizeLine/\∀ p,H1 p=none->Q (.ref p) (upd H1 p (.tup xs))
def Qd(t:TA):TE:=fun σ H Q=>t σ H fun xs H1=>xs.length<=sizeLine/\∀ p,H1 p=none->Q (.ref p) (upd H1 p (.lst xs))
theorem bj{x1}(h:PA X es t):PE X (.Tuple es x1 pos) (Qc t):=by
 intro pins s σ H Q I hq;refine wpAny_Tuple_spliced (thn (h pos pins s σ H _ I hq) fun us s1 ⟨xs,H1,I1,r,z,q⟩=>⟨by rw[<- r.length];exact z,?_⟩);have hf:H1 s1.heap.objs.size=none:=I1.hok.fresh (qnr _);refine⟨.ref s1.heap.objs.size,upd H1 s1.heap.objs.size (.tup xs),I1.laid (t':=s1.toks) (fun b u e=>Heap.get?_push_of_some _ e) (qnr _) ?_,Z,q _ hf⟩;exact⟨z,us,r,⟨_,Heap.get?_push_size _ rfl,Z,_,Z⟩⟩
theorem bz(h:PA X es t):PE X (.List es pos) (Qd t):=by
 intro pins s σ H Q I hq;refine wpAny_List_spliced (thn (h pos pins s σ H _ I hq) fun us s1 ⟨xs,H1,I1,r,z,q⟩=>⟨by rw[<- r.length];exact z,?_⟩);have hf:H1 s1.heap.objs.size=none:=I1.hok.fresh (qnr _);refine⟨.ref s1.heap.objs.size,upd H1 s1.heap.objs.size (.lst xs),I1.laid (t':=s1.toks) (fun b u e=>Heap.get?_push_of_some _ e) (qnr _) ?_,Z,q _ hf⟩;exact⟨z,us,0,r,Heap.get?_push_size _ rfl⟩
end
abbrev Sp:=List V->Hp->VK->XK->Prop
end L2
variable{sp:L2.Sp}
namespace L2
open PySem PySem.Spec PyProof.Rows
abbrev r_:=List Env->Hp->Shared->XK->Value->Shared->Prop
structure tJ(P:Program)(w:World)(K:W.Frag)(mg:Str->Option Value)(base:Heap)(A:Around)(outer:List Env)(s:Shared)(H:Hp):Prop where
 frames:A.frames=some outer
 mod:Mod K mg base
 bs:∀ b o,base.get? b=some o->s.heap.get? b=some o/\H b=none
 AV:base.objs.size<=s.heap.objs.size
 l8:s.heap.FunFrames base outer
 EC:∀ b∈iq outer,H b=none
 hok:kK P w H s.heap
 bare:AllBare s.gens
def CE(outer:List Env)(P:Program)(w:World)(H:Hp)(s:Shared)(Q:VK)(u:Value)(s':Shared):Prop :=
 ∃ v H',s'.os=s.os/\AllBare s'.gens/\Un (iq outer) [] H H' s.heap s'.heap/\kK P w H' s'.heap/\RelV v u/\Q v H'
def CR(CX:r_)(outer:List Env)(P:Program)(w:World)(H:Hp)(s:Shared)(Q:VK)(E:XK)(r:Result)(s':Shared):Prop :=
 match r with
 | .ok (.ret u)=>CE outer P w H s Q u s'
 | .ok _=>False
 | .error e=>CX outer H s E e s'
structure fF(P:Program)(w:World)(K:W.Frag)(mg:Str->Option Value)(base:Heap)(CX:r_)(k:Nat)(f:Addr)(fd:FuncData)(ps:List Str)(sp:Sp):Prop where
 len:∀ vs H Q E,sp vs H Q E->vs.length=ps.length
 run:∀(A:Around)(outer:List Env)(s:Shared)(H:Hp)(args:Args)(us:List Value)(vs:List V)(Q:VK)(E:XK),eW k A->tJ P w K mg base A outer s H->BindsTo s fd args (ps.zip us)->Vals vs us->sp vs H Q E ->
  codeAny (model P w) A (.call (.ref f) args) (CR CX outer P w H s Q E) s
theorem fF.mono{P:Program}{w:World}{K:W.Frag}{mg:Str->Option Value}{base:Heap}{CX:r_}{j k:Nat}{f:Addr}{fd:FuncData}{ps:List Str}{sp:Sp}(F:fF P w K mg base CX j f fd ps sp)(h:j<=k): fF P w K mg base CX k f fd ps sp:=⟨F.len,fun A outer s H args us vs Q E hr=>F.run A outer s H args us vs Q E (hr.mono h)⟩
theorem fF.imp{CX:r_}{k:Nat}{UR:Sp}(F:fF P w K mg base CX k f fd ps sp)(h:∀ vs H Q E,UR vs H Q E->sp vs H Q E):fF P w K mg base CX k f fd ps UR :=
 ⟨fun vs H Q E q=>F.len vs H Q E (h _ _ _ _ q),fun A outer s H args us vs Q E hr he hb hv hs=>F.run A outer s H args us vs Q E hr he hb hv (h _ _ _ _ hs)⟩
theorem tJ.make(e:tJ P w K mg base A outer s H)(C:Addr)(us:List Value)(kw:List (Str×Value)): tJ P w K mg base (A.under (.builtin "type.__call__" ⟨.ref C::us,kw⟩)) outer s H:=⟨by first|exact e.frames | (simpa[Around.under,Code.envs,Code.isFrame,pushEnvs]using e.frames),e.mod,e.bs,e.AV,e.l8,e.EC,e.hok,e.bare⟩
theorem Inv.JA(I:Inv X pins σ H s):tJ X.prog X.w X.K X.mg X.base X.A X.stack s H :=
 ⟨I.ok.frames,I.ok.mod,I.bs,fA I.ok.AV I.sz,I.stack,I.kD,I.hok,I.bare⟩
theorem Inv.after{Q:VK}(I:Inv X pins σ H s)(h:CE X.stack X.prog X.w H s Q u s'):EP X pins σ Q u s':=by
 obtain⟨v,H',os,bare,un,hok,r,q⟩:=h;obtain⟨hh,g,d,t,_M⟩:=s';obtain rfl:_M=s.os:=os;exact⟨v,H',I.call (h':=hh) (g':=g) (d':=d) (t':=t) (ch:=[]) un hok bare (fun b z=>absurd z oz),r,q⟩
def Av(sp:Sp)(dvs:List V)(E:XK)(t:TA):TE:=fun σ H Q=>t σ H fun vs H1=>sp (vs++dvs) H1 Q E
inductive Mn(C:Addr)(m:Str)(x:V)(H:Hp)(R:Prop):Prop
 |mk(a dx:Addr)(fs:List (Str×V))(_:x=.ref a)(_:H a=some (.ins C dx fs))(_:fs.lookup m=none)(_:R)
def vC(C:Addr)(m:Str)(sp:Sp)(dvs:List V)(E:XK)(ta:TE)(t:TA):TE:=fun σ H Q=>ta σ H fun x H1=>Mn C m x H1 (t σ H1 fun vs H2=>sp (x::(vs++dvs)) H2 Q E)
def vD(C:Addr)(sp:Sp)(dvs:List V)(E:XK)(t:TA):TE:=fun σ H Q=>t σ H fun vs H1=>∀ x dx,H1 x=none->H1 dx=none->dx≠x ->
 sp (.ref x::(vs++dvs)) (upd (upd H1 dx (.own x)) x (.ins C dx [])) (fun v H2=>v=.non /\ Q (.ref x) H2) E
def Binds(K:W.Frag)(fd:FuncData)(ps:List Str)(ds:List Value):Prop :=
 ∀(s:Shared)(us:List Value),K.In s.heap->(us++ds).length=ps.length->BindsTo s fd ⟨us,[]⟩ (ps.zip (us++ds))
theorem Binds.all(h:∀ us:List Value,us.length=ps.length->bindArgs fd ⟨us,[]⟩=pure (ps.zip us)):Binds K fd ps []:=fun s us _ hl=>by
 rw[bX]at hl ⊢;exact .of_eq (h us hl)
def dM(CX:r_)(X:Cx)(E:XK):Prop:=∀(pins:List (Addr×Obj))(σ:St)(H:Hp)(s:Shared)(e:Value)(s':Shared),Inv X pins σ H s->CX X.stack H s E e s'->X.xe e s'
section
variable{CX:r_}{k:Nat}{E:XK}{o:Expr}{t:TA}
theorem rJ{Q:VK}{vs:List V}(F:fF X.prog X.w X.K X.mg X.base CX k f fd ps sp)(hr:eW k X.A)(hb:Binds X.K fd ps ds)(hd:Vals dvs ds)(hx:dM CX X E)(I:Inv X pins σ H s)(r:Vals vs us)(h:sp (vs++dvs) H Q E):wpAny (model X.prog X.w) X.A (call (.ref f) us) (EP X pins σ Q) X.xe s:=by
 have r2:Vals (vs++dvs) (us++ds):=r.append hd;have hl:(us++ds).length=ps.length:=by rw[<- r2.length];exact F.len _ _ _ _ h
 refine wpAny_call (pz (F.run X.A X.stack s H ⟨us,[]⟩ (us++ds) (vs++dvs) Q E hr I.JA (hb s us I.kIn hl) r2 h) fun r s' hq=>?_);cases r with
 |error e=>exact hx pins σ H s e s' I hq
 | ok fl =>
  cases fl with
  |ret u=>exact I.after hq
  |next=>exact False.elim hq
  |brk=>exact False.elim hq
  |cont=>exact False.elim hq
theorem pW(F:fF X.prog X.w X.K X.mg X.base CX k f fd ps sp)(hr:eW k X.A)(hg:Gl X x)(hm:X.mg x=some (.ref f))(hk:W.keepIn X.K (.ref f)=true)(hb:Binds X.K fd ps ds)(hd:Vals dvs ds)(hx:dM CX X E)
  (ha:PA X (e::es) t) (kg:(x==("__debug__":Str))=false:=by decide) (he:starEach (e::es) X.env=(false,eval e X.env):: starEach es X.env:=by rfl) (gI:(backTo pos (starEach es X.env)).any (·.1)=false:=by rfl):
  PE X (.Call (.Name x p) (e::es) [] pos) (Av sp dvs E t):=by
 intro pins s σ H Q I h;refine ek (je I hg hm ?_ kg);refine pE (h₀:=X.base) I.ok.mod.E5 hk (thn (ha pos pins s σ H _ I h) fun us s1 ⟨vs,H1,I1,r,q⟩=>⟨I1.kIn,?_⟩) he gI;exact rJ F hr hb hd hx I1 r q
theorem J1{pl:Sem Bool}(he:PE X o ta)(c:tS X.K C)(hm:Meth X.K C m f)(F:fF X.prog X.w X.K X.mg X.base CX k f fd ps sp)(hr:eW k X.A)(hb:Binds X.K fd ps ds)(hd:Vals dvs ds)(hx:dM CX X E)(ha:PA X (e::es) t)
  (nB:starEach (e::es) X.env=(false,eval e X.env):: starEach es X.env:=by rfl) (gI:(backTo pos (starEach es X.env)).any (·.1)=false:=by rfl)
  (ht:eval (.Call (.Attribute o m apos) (e::es) [] pos) X.env=(do
   let ov <- eval o X.env
   standAt apos.atName
   let (f,first) <- holding [ov] (getMethod ov m pl)
   callWith pos f first (backTo pos (starEach (e::es) X.env)) (backToKw pos (keywordEach [] X.env))):=by rfl):
  PE X (.Call (.Attribute o m apos) (e::es) [] pos) (vC C m sp dvs E ta t):=by
 intro pins s σ H Q I h;refine W.methodCall_KW (pl:=pl) (thn (he pins s σ H _ I h) fun u s1 ⟨x,H1,I1,rx,a,dx,fs,ex,ea,l,q⟩=>?_) ht;subst ex;obtain rfl:u=Value.ref a:=rx;refine rH I1 ea c hm l ?_;refine pE (first:=[.ref a]) (h₀:=X.base) I.ok.mod.E5 hm.kp (thn (ha pos pins s1 σ H1 _ I1 q) fun us s2 ⟨vs,H2,I2,r,q2⟩=>⟨I2.kIn,?_⟩) nB gI;exact rJ (us:=.ref a::us) (vs:=.ref a::vs) F hr hb hd hx I2 (.cons rfl r) q2
theorem Gq{pl:Sem Bool}(he:PE X o ta)(c:tS X.K C)(hm:Meth X.K C m f)(F:fF X.prog X.w X.K X.mg X.base CX k f fd ps sp)(hr:eW k X.A)(hb:Binds X.K fd ps ds)(hd:Vals dvs ds)(hx:dM CX X E)
  (ht:eval (.Call (.Attribute o m apos) [] [] pos) X.env=(do
   let ov <- eval o X.env
   standAt apos.atName
   let (f,first) <- holding [ov] (getMethod ov m pl)
   callWith pos f first (backTo pos (starEach [] X.env)) (backToKw pos (keywordEach [] X.env))):=by rfl):
  PE X (.Call (.Attribute o m apos) [] [] pos) (vC C m sp dvs E ta oF):=by
 intro pins s σ H Q I h;refine W.methodCall_KW (pl:=pl) (thn (he pins s σ H _ I h) fun u s1 ⟨x,H1,I1,rx,a,dx,fs,ex,ea,l,q⟩=>?_) ht;subst ex;obtain rfl:u=Value.ref a:=rx;refine rH I1 ea c hm l ?_;exact W.callWith_K0 (first:=[.ref a]) I1.kIn hm.kp (rJ (us:=[.ref a]) (vs:=[.ref a]) F hr hb hd hx I1 (.cons rfl .nil) q)
structure Mk(K:W.Frag)(C f:Addr):Prop where
 makes:W.makesIn K C=true
 init:W.findIn K (.ref C) "__init__"=some (some (.ref f))
 fn:W.isFn K (.ref f)=true
 kp:W.keepIn K (.ref C)=true
theorem vW{Q:VK}{vs:List V}(M:Mk X.K C f)(F:fF X.prog X.w X.K X.mg X.base CX k f fd ps sp)(hr:eW (k+1) X.A)(hb:Binds X.K fd ps ds)(hd:Vals dvs ds)(hx:dM CX X E)(I:Inv X pins σ H s)(r:Vals vs us)(h:∀ x dx,H x=none->H dx=none->dx≠x->sp (.ref x::(vs++dvs)) (upd (upd H dx (.own x)) x (.ins C dx [])) (fun v H2=>v=.non /\ Q (.ref x) H2) E): wpAny (model X.prog X.w) X.A (call (.ref C) us) (EP X pins σ Q) X.xe s:=by
 have hq:=h (s.heap.objs.size+1) s.heap.objs.size (I.hok.fresh (Nat.le_succ _)) (I.hok.fresh (qnr _)) (b4 (mT _));have I2:=Inv.made (C:=C) I;have r2:Vals (V.ref (s.heap.objs.size+1):: (vs++dvs)) (Value.ref (s.heap.objs.size+1):: (us++ds)):=.cons rfl (r.append hd)
 have hl:(Value.ref (s.heap.objs.size+1):: us++ds).length=ps.length:=by
  have e:=r2.length;rw[F.len _ _ _ _ hq]at e;exact e.symm
 refine wpAny_call (Gp (f:=f) I.kIn M.makes M.init (i'.mp M.fn) (pz (F.run _ X.stack _ _ ⟨Value.ref (s.heap.objs.size+1):: us,[]⟩ (Value.ref (s.heap.objs.size+1):: (us++ds)) _ _ E (hr.make C us [])
  (I2.JA.make C us []) (hb _ (Value.ref (s.heap.objs.size+1):: us) I2.kIn hl) r2 hq) fun r s' MM=>?_))
 cases r with
 |error e=>exact hx pins σ _ _ e s' I2 MM
 | ok fl =>
  cases fl with
  | ret u =>
   obtain⟨v,H',I3,rv,ev,q3⟩:=I2.after MM;subst ev;exact⟨rv,⟨V.ref (s.heap.objs.size+1),H',I3,Z,q3⟩⟩
  |next=>exact False.elim MM
  |brk=>exact False.elim MM
  |cont=>exact False.elim MM
theorem J2(M:Mk X.K C f)(F:fF X.prog X.w X.K X.mg X.base CX k f fd ps sp)(hr:eW (k+1) X.A)(hg:Gl X x)(hm:X.mg x=some (.ref C))(hb:Binds X.K fd ps ds)(hd:Vals dvs ds)(hx:dM CX X E)
  (ha:PA X (e::es) t) (kg:(x==("__debug__":Str))=false:=by decide) (he:starEach (e::es) X.env=(false,eval e X.env):: starEach es X.env:=by rfl) (gI:(backTo pos (starEach es X.env)).any (·.1)=false:=by rfl):
  PE X (.Call (.Name x p) (e::es) [] pos) (vD C sp dvs E t):=by
 intro pins s σ H Q I h;refine ek (je I hg hm ?_ kg);refine pE (h₀:=X.base) I.ok.mod.E5 M.kp (thn (ha pos pins s σ H _ I h) fun us s1 ⟨vs,H1,I1,r,q⟩=>⟨I1.kIn,?_⟩) he gI;exact vW M F hr hb hd hx I1 r q
theorem Gr(M:Mk X.K C f)(F:fF X.prog X.w X.K X.mg X.base CX k f fd ps sp)(hr:eW (k+1) X.A)(hg:Gl X x)(hm:X.mg x=some (.ref C))(hb:Binds X.K fd ps ds)(hd:Vals dvs ds)(hx:dM CX X E)
  (kg:(x==("__debug__":Str))=false:=by decide):PE X (.Call (.Name x p) [] [] pos) (vD C sp dvs E oF):=by
 intro pins s σ H Q I h;refine ek (je I hg hm ?_ kg);exact W.callWith_K0 I.kIn M.kp (vW (us:=[]) M F hr hb hd hx I .nil h)
end
structure b_(N P:List Str)(sc:Scope):Prop where
 kind:sc.kind=.function
 co:sc.isCoroutine=false
 gen:sc.isGenerator=false
 nd:N.Nodup
 pre:N.take P.length=P
 par:∀ x∈P,sc.names.lookup x=some .local \/ sc.names.lookup x=some .cell
 HL:∀ y∈sc.names,y.2≠.free
theorem kF{l:List Str}(h:l.Nodup:=by decide +kernel):l.Nodup:=h
theorem eo{P:List Str}(h1:sc.kind=.function:=by rfl)(h2:sc.isCoroutine=false:=by rfl)(h3:sc.isGenerator=false:=by rfl)(h4:N.Nodup:=by decide +kernel)(h5:N.take P.length=P:=by rfl)(h6:∀ x∈P,sc.names.lookup x=some .local \/ sc.names.lookup x=some .cell:=by decide +kernel)(h7:∀ y∈sc.names,y.2≠.free:=by decide +kernel):b_ N P sc:=⟨h1,h2,h3,h4,h5,h6,h7⟩
theorem uv{kindOf:Str->Option NameKind}{x:Str}:∀{binds:List (Str×Value)}{m:Str->Option Value},(∀ v,(x,v)∉binds)->bindL kindOf binds m x=m x
 |[],_,_=>rfl
 | (n,v):: r,m,h=>by
  unfold bindL;rw[uv fun w hw=>h w (k8 _ hw)]
  split
  ·have:x≠n:=by rintro rfl;exact h v qms
   simp[this]
  rfl
theorem uw{kindOf:Str->Option NameKind}{x:Str}:∀{binds:List (Str×Value)}{m:Str->Option Value},(∀ v,(x,v)∉binds)->bindC kindOf binds m x=m x
 |[],_,_=>rfl
 | (n,v):: r,m,h=>by
  unfold bindC;rw[uw fun w hw=>h w (k8 _ hw)]
  split
  ·rfl
  have:x≠n:=by rintro rfl;exact h v qms
  simp[this]
theorem ux{kindOf:Str->Option NameKind}{x:Str}{v:Value}:∀{P:List Str}{vs:List Value}{i:Nat}{m:Str->Option Value},P.Nodup->P[i]?=some x->vs[i]?=some v->kindOf x=some .local -> bindL kindOf (P.zip vs) m x=some v
 |[],_,_,_,_,h,_,_=>by simp at h
 |_::_,[],_,_,_,_,h,_=>by simp at h
 | p::P,w::vs,0,m,nd,h1,h2,hk=>by
  simp at h1 h2;subst h1;subst h2;show bindL kindOf ((p,w):: P.zip vs) m p=_;unfold bindL;rw[uv fun v hv=>(eR.mp nd).1 (A_ hv).1,b6 hk];simp
 | p::P,w::vs,i+1,m,nd,h1,h2,hk=>by
  show bindL kindOf ((p,w):: P.zip vs) m x=_;unfold bindL;exact ux (i:=i) (eR.mp nd).2 (by simpa using h1) (by simpa using h2) hk
theorem uy{kindOf:Str->Option NameKind}{x:Str}{v:Value}:∀{P:List Str}{vs:List Value}{i:Nat}{m:Str->Option Value},P.Nodup->P[i]?=some x->vs[i]?=some v->kindOf x≠some .local -> bindC kindOf (P.zip vs) m x=some v
 |[],_,_,_,_,h,_,_=>by simp at h
 |_::_,[],_,_,_,_,h,_=>by simp at h
 | p::P,w::vs,0,m,nd,h1,h2,hk=>by
  simp at h1 h2;subst h1;subst h2;show bindC kindOf ((p,w):: P.zip vs) m p=_;unfold bindC;rw[uw fun v hv=>(eR.mp nd).1 (A_ hv).1,bq hk];simp
 | p::P,w::vs,i+1,m,nd,h1,h2,hk=>by
  show bindC kindOf ((p,w):: P.zip vs) m x=_;unfold bindC;exact uy (i:=i) (eR.mp nd).2 (by simpa using h1) (by simpa using h2) hk
def start(N:List Str)(vs:List V):St:=vs.map some++List.replicate (N.length-vs.length) none
def bU(CX:r_)(P:Program)(w:World)(K:W.Frag)(mg:Str->Option Value)(base:Heap)(N:List Str)(qual:Str)(scope:Scope)(f:Addr)(cd:Value)(A:Around)(outer:List Env)(s:Shared)(H:Hp)(E:XK):Cx where
 prog:=P
 w:=w
 K:=K
 mg:=mg
 base:=base
 A:=A.deeper (envOfC qual scope s.heap.objs.size f cd)
 N:=N
 s₀:=s
 H₀:=H
 env:=envOfC qual scope s.heap.objs.size f cd
 outer:=outer
 stack:=envOfC qual scope s.heap.objs.size f cd::outer
 ex:=[]
 calm:=true
 fn:=fun _=>true
 pn:=[]
 xe:=fun e s'=>wpAny (model P w) (A.deeper (envOfC qual scope s.heap.objs.size f cd)) (leaving (envOfC qual scope s.heap.objs.size f cd) e) (fun _ Rq=>CX outer H s E e Rq) (fun e' Rq=>CX outer H s E e' Rq) s'
theorem vX(h:sc.names.lookup x=some .cell):∃ c,(cellsFrom n sc.names []).lookup x=some c:=by
 have q:=W.cellsFrom_some sc.names n [] (.inl h);exact md.mp q
theorem Dc{CX:r_}{E:XK}{vs:List V}(S:b_ N ps scope)(hd:A.handled=none)(e0:tJ P w K mg base A outer s H)(hl:vs.length=ps.length)(r:Vals vs us)(x:InCallC s s.heap.objs.size (bindL (envOfC qual scope s.heap.objs.size f cd).kindOf (ps.zip us) fun _=>none) (cellsFrom (s.heap.objs.size+1) scope.names []) (bindC (envOfC qual scope s.heap.objs.size f cd).kindOf (ps.zip us) fun _=>none) s1): Inv (bU CX P w K mg base N qual scope f cd A outer s H E) [] (start N vs) H s1:=by
 have gI:ps.length<=N.length:=by have:=bP List.length S.pre;rw[bE]at this;exact oo
 obtain⟨h1,tk,rfl,hk⟩:=x.done;have Mb:∀ b:Addr,b∉(bU CX P w K mg base N qual scope f cd A outer s H E).ex:=fun b z=>absurd (show b∈([]:List Addr)from z) oz
 refine⟨⟨e0.mod,S.kind,rfl,rfl,qnr _,fun y z c h1 h2=>?_,fun y hy=>?_,fun y c _ h=>?_,fun _=>hd,Around.frames_deeper e0.frames,.inr ⟨rfl,rfl⟩,fun b z=>absurd z (Mb b),e0.bs,e0.AV,fun b _ _=>Mb b,fun b z=>absurd z (Mb b),e0.l8,e0.EC⟩,
  rfl,e0.bare,Un.kept hk,⟨_,x.toInCall.ns,fun i y v h1 h2 h3=>?_⟩,fun y c h=>⟨_,x.cell y c h⟩,e0.hok.fresh (qnr _),fun y c h=>?_,fun p hp=>absurd (show p∈([]:List (Addr×Obj))from hp) oz,e0.hok.kept hk,?_⟩
 ·exact name_of_addr x.apart (PySem.mem_of_lookup h1) (PySem.mem_of_lookup h2)
 ·have hy:scope.names.lookup y=some .cell \/ scope.names.lookup y=some .free:=hy
  rcases hy with hy|hy
  ·exact vX hy
  exact absurd rfl (S.HL _ (PySem.mem_of_lookup hy))
 ·exact kA (x.above y c (PySem.mem_of_lookup h))
 ·have hi:i<vs.length:=by
   unfold start at h2
   by_cases hi:i<vs.length
   ·exact hi
   rw[List.getElem?_append_right (by simpa using hi)]at h2;rw[List.getElem?_replicate]at h2
   split at h2<;>cases h2
  have ha:vs[i]?=some v:=by
   unfold start at h2;rw[List.getElem?_append_left (by simpa using hi),kT]at h2;cases e:vs[i]? with
   |none=>rw[e]at h2;cases h2
   |some a=>rw[e]at h2;cases h2;rfl
  obtain⟨u,hu,rv⟩:=r.get ha
  have hp:ps[i]?=some y:=by
   rw[<- S.pre,List.getElem?_take_of_lt oo];exact h1
  have U8:ps.Nodup:=by rw[<- S.pre];exact S.nd.sublist (List.take_sublist _ _)
  refine⟨u,rv,?_⟩;rcases S.par y (qh hp)with k|k
  ·exact .inl ⟨k,ux U8 hp hu k⟩
  obtain⟨c,e⟩:=vX (n:=s.heap.objs.size+1) k;refine .inr ⟨.inl k,c,e,?_⟩;have q:=x.cell y c e;rw[uy U8 hp hu (by show scope.names.lookup y≠_;rw[k];decide)]at q;exact q
 ·exact e0.hok.fresh (kA (x.above y c (PySem.mem_of_lookup h)))
 unfold start;show _=N.length;rw[aS,dS,d_];exact oo
theorem Ol{CX:r_}{k:Nat}{params:Arguments}{dV kV:Value}(lk:K.lookup f=some ⟨oc,od,.func (W.fnOf name qual params body scope dV kV doc pm an g9 ct),HG⟩)(tj:W.codeIn K g9 qual=true)(S:b_ N ps scope)(len:∀ vs H Q E,sp vs H Q E->vs.length=ps.length)(oi:∀(A:Around)(outer:List Env)(s:Shared)(H:Hp)(vs:List V)(Q:VK)(E:XK),eW k (A.deeper (envOfC qual scope s.heap.objs.size f g9))->sp vs H Q E -> ∃ t,tF (bU CX P w K mg base N qual scope f g9 A outer s H E) body t/\t { nx:=fun _ H'=>Q .non H',rt:=Q } (start N vs) H): fF P w K mg base CX (k+1) f (W.fnOf name qual params body scope dV kV doc pm an g9 ct) ps sp:=by
 refine⟨len,fun A outer s H args us vs Q E hr e0 hb r BO=>?_⟩;have hl:=len _ _ _ _ BO;have KX:K.In s.heap:=e0.mod.E5.keeps fun b o e=>(e0.bs b o e).1
 have lim:s.heap.NoLimit:=e0.mod.nolimit.keeps fun b o e=>(e0.bs b o e).1
 have Na:∀ y∈ps.zip us,scope.names.lookup y.1=some .local \/ (scope.names.lookup y.1=some .cell /\ ((cellsFrom (s.heap.objs.size+1) scope.names []).lookup y.1).isSome=true):=fun⟨n,v⟩ hy=>by
  rcases S.par n (A_ hy).1 with q|q
  ·exact .inl q
  exact .inr ⟨q,W.cellsFrom_some _ _ _ (.inl q)⟩
 refine codeAny_call_function hr.depth (KX _ _ lk) rfl S.co S.gen rfl (W.codeRec_of KX tj) (hb _ _ _ _ ?_);refine wpAny_newFunctionEnv_cells S.kind Na fun env he s1 x=>?_
 subst he;refine⟨lim.keeps x.toInCall.keep,codeAny_func ?_⟩;obtain⟨t,ht,hq⟩:=oi A outer s H vs Q E (hr.deeper _) BO;have I:Inv (bU CX P w K mg base N qual scope f g9 A outer s H E) [] (start N vs) H s1:=Dc S hr.hd e0 hl r x;refine df (ht [] s1 (start N vs) H _ I hq) (fun fl s' hs=>?_) fun e s' hs=>hs
 have fin:∀{σ':St}{H':Hp}{v:V}{u:Value},Inv (bU CX P w K mg base N qual scope f g9 A outer s H E) [] σ' H' s'->RelV v u->Q v H'->CE outer P w H s Q u s' :=
  fun {σ' H' v u} J rv q=>⟨v,H',J.os,J.bare,J.base,J.hok,rv,q⟩
 cases fl with
 | ret u =>
  obtain⟨v,σ',H',J,rv,q⟩:=hs;exact fin J rv q
 | next =>
  obtain⟨σ',H',J,q⟩:=hs;exact fin (v:=V.non) (u:=Value.none) J rfl q
 | brk =>
  obtain⟨_,_,_,q⟩:=hs;exact False.elim q
 | cont =>
  obtain⟨_,_,_,q⟩:=hs;exact False.elim q
section
variable{t:TA}{id T:String}{r:List V->Hp->VK->Prop}
def PD(r:List V->Hp->VK->Prop)(t:TA):TE:=fun σ H Q=>t σ H fun vs H1=>r vs H1 Q
theorem vY(hc:dN X (.builtin id) r) (hg:Gl X x) (hm:X.mg x=none) (hv:bootBuiltins x=some (.builtin id)) (ha:PA X (e::es) t) (hn:x≠"__name__":=by decide) (kg:(x==("__debug__":Str))=false:=by decide)
  (he:starEach (e::es) X.env=(false,eval e X.env):: starEach es X.env:=by rfl) (gI:(backTo pos (starEach es X.env)).any (·.1)=false:=by rfl):PE X (.Call (.Name x p) (e::es) [] pos) (PD r t):=by
 intro pins s σ H Q I h;refine ek (j6 I hg hm hv ?_ hn kg);exact PyProof.Rows.callWith_builtin1 (thn (ha pos pins s σ H _ I h) fun us s1 ⟨vs,H1,I1,r1,q1⟩=>hc pins s1 σ H1 vs us Q I1 r1 q1) he gI
theorem uz(hc:dN X (.type T) r) (hg:Gl X x) (hm:X.mg x=none) (hv:bootBuiltins x=some (.type T)) (ha:PA X (e::es) t) (hn:x≠"__name__":=by decide) (kg:(x==("__debug__":Str))=false:=by decide)
  (he:starEach (e::es) X.env=(false,eval e X.env):: starEach es X.env:=by rfl) (gI:(backTo pos (starEach es X.env)).any (·.1)=false:=by rfl):PE X (.Call (.Name x p) (e::es) [] pos) (PD r t):=by
 intro pins s σ H Q I h;refine ek (j6 I hg hm hv ?_ hn kg);exact f_ (thn (ha pos pins s σ H _ I h) fun us s1 ⟨vs,H1,I1,r1,q1⟩=>hc pins s1 σ H1 vs us Q I1 r1 q1) he gI
end
end L2
variable{CX:L2.r_}
namespace HT
open PySem PyProof.Rows
theorem ED{t:Addr}{ws:List Value}(ht:IsTup s.heap t vs.toArray)(hb:IsTup s.heap b ws.toArray)(hv:vs≠[])(h1:ws=[]->Q (.ref t) s)(h2:ws≠[]->Q (.ref s.heap.objs.size) { s with heap:=s.heap.push { cls:=.type "tuple",data:=.seq (vs++ws).toArray } })(hsz:vs.length+ws.length<=sizeLine):wpAny (model prog w) A (binaryOp .Add (.ref t) (.ref b)) Q E s:=by
 obtain⟨⟨cls,dd,data,sl⟩,ho,hc,n,hd⟩:=id ht;obtain⟨⟨cls2,Yj,data2,US⟩,P',sv,n2,hd2⟩:=id hb;simp only at hc hd sv hd2;subst hc hd sv hd2;have e:vs.toArray++ws.toArray=(vs++ws).toArray:=by simp
 by_cases hw:ws=[]
 ·exact concat_meets ⟨_,ho,rfl⟩ ⟨_,P',rfl⟩ noFill_tuple_add seq_tuple_add PySem.F.slot_tuple_add PySem.F.entry_tuple_add (PySem.F.args_tuple_add_2 _ _)
   (tuple_addW1 t b vs.toArray ws.toArray n n2 dd Yj sl US (by simpa using hv) (by simp[hw])) ⟨ho,P',h1 hw⟩
 refine concat_meets ⟨_,ho,rfl⟩ ⟨_,P',rfl⟩ noFill_tuple_add seq_tuple_add PySem.F.slot_tuple_add PySem.F.entry_tuple_add (PySem.F.args_tuple_add_2 _ _)
  (tuple_addW2 t b vs.toArray ws.toArray n n2 dd Yj sl US (by simpa using hv) (by simpa using hw) (by rw[ah,ah];exact hsz)) ⟨ho,P',?_⟩
 rw[e];exact h2 hw
def fb(n d:Nat):Option Int->Nat
 |none=>d
 |some v=>if v<0 then(v+(n:Int)).toNat else min v.toNat n
theorem z5(n d:Nat)(hd:d<=n)(o:Option Int):fb n d o<=n:=by
 cases o with
 |none=>exact hd
 | some v =>
  show(if v<0 then(v+(n:Int)).toNat else min v.toNat n)<=n
  by_cases hv:v<0
  ·rw[b6 hv];exact oo
  rw[bq hv];exact Nat.min_le_right _ _
theorem yF(v:Int)(n d:Nat):(if v<0 then max (v+(n:Int)) 0 else min v (n:Int))=((fb n d (some v):Nat):Int):=by
 show(if v<0 then max (v+(n:Int)) 0 else min v (n:Int))=(((if v<0 then(v+(n:Int)).toNat else min v.toNat n):Nat):Int)
 by_cases hv:v<0
 ·simp only[b6 hv];exact oo
 simp only[bq hv];exact oo
theorem Aw(lo hi:Option Int)(n:Nat):Builtin.Slice.sliceAdjust lo hi 1 (n:Int)=(((fb n 0 lo:Nat):Int),((fb n n hi:Nat):Int)):=by
 have h1:¬((1:Int)<0):=oo
 unfold Builtin.Slice.sliceAdjust;simp only[h1,mM];refine Prod.ext ?_ ?_
 ·cases lo with
  |none=>rfl
  |some v=>exact yF v n 0
 cases hi with
 |none=>rfl
 |some v=>exact yF v n n
theorem Ax(i j:Nat):Builtin.Slice.slicePlaces (i:Int) (j:Int) 1=j-i:=by
 unfold Builtin.Slice.slicePlaces;have h1:(1:Int)>0:=oo
 simp only[h1,i_,Int.ediv_one]
 split<;>exact oo
theorem rK{v:Value}{o:Option Int}{Q:Option Int->Shared->Prop}(p:IsPart v o)(h:Q o s):wpAny (model prog w) A (Builtin.Slice.slicePartIndex v) Q E s:=by
 cases p with
 |none=>exact slicePart_none h
 |int i t=>exact slicePart_int h
theorem qH{lo:Option Int}{Q:Int×Int×Nat->Shared->Prop}(hs:s.heap.IsSliceOf sl vl vu .none)(pl:IsPart vl lo)(pu:IsPart vu hi)(h:Q (((fb n 0 lo:Nat):Int),1,fb n n hi-fb n 0 lo) s):wpAny (model prog w) A (Builtin.Slice.sliceApplied (.ref sl) (pure (n:Int))) Q E s:=by
 obtain⟨os,MU,lh,Lc⟩:=id hs;unfold Builtin.Slice.sliceApplied Builtin.Slice.sliceFields;refine ae (ae (i5 MU Lc (x:=vl) rfl (ae (i5 MU Lc (x:=vu) rfl (ae (i5 MU Lc (x:=.none) rfl (aI ?_)))))));refine ae (slicePart_none ?_);show wpAny _ _ (if ((1:Int)==0)=true then _ else _) _ _ s;rw[bq odz];refine ae (rK pl (ae (rK pu (ae (aI ?_)))));show wpAny _ _ (match Builtin.Slice.sliceAdjust lo hi 1 (n:Int)with | (lo,hi)=>pure (lo,(1:Int),Builtin.Slice.slicePlaces lo hi 1)) _ _ s;rw[Aw lo hi n];show wpAny _ _ (pure (((fb n 0 lo:Nat):Int),(1:Int),Builtin.Slice.slicePlaces ((fb n 0 lo:Nat):Int) ((fb n n hi:Nat):Int) 1)) _ _ s;rw[Ax];exact aI h
theorem Gs(xs:Array Value)(i k:Nat):((List.range k).filterMap fun(m:Nat)=>xs[((i:Int)+(m:Int)*1).toNat]?).toArray=((xs.toList.drop i).take k).toArray:=by
 have e:(fun(m:Nat)=>xs[((i:Int)+(m:Int)*1).toNat]?)=fun m=>xs[i+m]?:=by
  funext m
  have:((i:Int)+(m:Int)*1).toNat=i+m:=oo
  rw[this]
 rw[e];have:=pick_run xs i k;rw[List.filterMap_map]at this;have e2:((fun x=>xs[x]?) ∘ fun x=>i+x)=fun m=>xs[i+m]?:=rfl
 rw[e2]at this;rw[this]
theorem l7{t:Addr}{items:Array Value}{lo:Option Int}(ht:IsTup s.heap t items)(hs:s.heap.IsSliceOf sl vl vu .none)(pl:IsPart vl lo)(pu:IsPart vu hi)(hw:¬(fb items.size 0 lo=0/\fb items.size items.size hi=items.size))(h:Q (.ref s.heap.objs.size) { s with heap:=s.heap.push { cls:=.type "tuple",data:=.seq ((items.toList.drop (fb items.size 0 lo)).take (fb items.size items.size hi-fb items.size 0 lo)).toArray } })(hsz:items.size<=sizeLine):wpAny (model prog w) A (getItem (.ref t) (.ref sl)) Q E s:=by
 have vk:sizeOk (.seq ((items.toList.drop (fb items.size 0 lo)).take (fb items.size items.size hi-fb items.size 0 lo)).toArray):=by
  show((items.toList.drop (fb items.size 0 lo)).take (fb items.size items.size hi-fb items.size 0 lo)).toArray.size<=sizeLine;rw[ah,bE,dA,ag];exact oo
 have hj:fb items.size items.size hi<=items.size:=z5 _ _ (qnr _) hi;obtain⟨os,MU,lh,Lc⟩:=id hs;have hTs:s.TypeIs (.ref sl) "slice":=⟨os,MU,lh⟩
 unfold getItem
 try with_reducible refine x3 ?_
 first|refine ae (aI ?_)|skip
 refine ae (wpAny_sequenceKey ht.typeIs odz ?_)
 refine ae (wpAny_callSpecial?_slot (name:=Str.ofString "__getitem__") ht.typeIs i4
  (kx i4 ht.typeIs entry_tuple_getitem ?_ (args_tuple_getitem _ _)))
 show wpAny _ _ (Builtin.Tuple.tupleItemsOf (.ref t)>>=_) _ _ s;refine ae (tupleItemsOf_ ht ?_);refine ae (wpAny_typeOf hTs ?_);rw[b6 odz];refine ae (qH hs pl pu ?_)
 have ow:¬((((fb items.size 0 lo:Nat):Int)==0&&(1:Int)==1&&(fb items.size items.size hi-fb items.size 0 lo)==items.size)=true):=by
  intro q;rw[dE,dE]at q;have q1:((fb items.size 0 lo:Nat):Int)=0:=eq_of_beq q.1.1;have q2:fb items.size items.size hi-fb items.size 0 lo=items.size:=eq_of_beq q.2;exact hw ⟨oo,oo⟩
 show wpAny _ _ (if (((fb items.size 0 lo:Nat):Int)==0&&(1:Int)==1&&(fb items.size items.size hi-fb items.size 0 lo)==items.size)=true then _ else _) _ _ s;rw[bq ow,Gs]
 first
  |exact ae (m:=Builtin.Tuple.tupleExact _) (fg (aI ⟨_,rfl,aI h⟩) vk)
  |exact ae (m:=Builtin.Tuple.tupleExact _) (fg (ae (aI (aI ⟨_,rfl,aI h⟩))) vk)
  |exact ae (ae (m:=Builtin.Tuple.tupleExact _) (fg (aI (aI ⟨_,rfl,aI h⟩)) vk))
  |exact ae (ae (m:=Builtin.Tuple.tupleExact _) (fg (aI ⟨_,rfl,aI h⟩) vk))
end HT
namespace L2
open PySem PySem.Spec PyProof.Rows
abbrev TO:=St->Hp->(Option Int->Hp->Prop)->Prop
def PO(X:Cx)(e:Option Expr)(t:TO):Prop :=
 ∀(pins:List (Addr×Obj))(s:Shared)(σ:St)(H:Hp)(Q:Option Int->Hp->Prop),Inv X pins σ H s->t σ H Q ->
  wpAny (model X.prog X.w) X.A (evalPart e X.env) (fun u s'=>∃ o H',Inv X pins σ H' s'/\IsPart u o/\Q o H') X.xe s
def J3:TO:=fun _ H Q=>Q none H
def Om(t:TE):TO:=fun σ H Q=>t σ H fun x H1=>∃ i,x=.int i/\Q (some i) H1
theorem intsAre_of{ns:List Int}:∀{us:List Value},Vals (ns.map V.int) us->IntsAre us ns:=by
 induction ns with
 |nil=>intro us r;rw[ui]at r;cases r;exact .nil
 | cons n ns ih =>
  intro us r;rw[b3]at r;cases r with
  | cons r1 r2 =>
   obtain⟨t,e⟩:=r1;subst e;exact .cons n t (ih r2)
section
variable{lo hi:Option Expr}{tl th:TO}{p2:Pos}
theorem jV:PO X none J3:=by
 intro pins s σ H Q I h;rw[evalPart_none];exact aI ⟨none,H,I,.none,h⟩
theorem iG(h:PE X e te):PO X (some e) (Om te):=by
 intro pins s σ H Q I hw;rw[evalPart_some];refine thn (h pins s σ H _ I hw) fun u s1 ⟨x,H1,I1,r1,q1⟩=>?_
 obtain⟨i,rfl,q⟩:=q1;obtain⟨t,rfl⟩:=r1;exact⟨some i,H1,I1,.int i t,q⟩
def Q4(X:Cx)(r:V->Option Int->Option Int->Hp->VK->Prop):Prop :=
 ∀(pins:List (Addr×Obj))(s:Shared)(σ:St)(H:Hp)(x:V)(v vl vu:Value)(lo hi:Option Int)(sl:Addr)(Q:VK),Inv X pins σ H s->RelV x v->s.heap.IsSliceOf sl vl vu .none -> IsPart vl lo->IsPart vu hi->r x lo hi H Q ->
  ∃ T id,typeLookup (.type T) "__getitem__"=pure (some (.builtin id))/\s.TypeIs v T/\wpAny (model X.prog X.w) X.A (getItem v (.ref sl)) (EP X pins σ Q) X.xe s
def _v(r:V->Option Int->Option Int->Hp->VK->Prop)(te:TE)(tl th:TO):TE:=fun σ H Q=>te σ H fun x H1=>tl σ H1 fun l H2=>th σ H2 fun u H3=>r x l u H3 Q
theorem ik{r:V->Option Int->Option Int->Hp->VK->Prop}(hr:Q4 X r)(he:PE X e te)(hl:PO X lo tl)(hu:PO X hi th):PE X (.Subscript e (.Slice lo hi none p2) pos) (_v r te tl th):=by
 intro pins s σ H Q I h;refine Subscript_ (thn (he pins s σ H _ I h) fun v s1 ⟨x,H1,I1,r1,q1⟩=>?_);refine wpAny_Slice (thn (hl pins s1 σ H1 _ I1 q1) fun vl s2 ⟨l,H2,I2,pl,q2⟩=>thn (hu pins s2 σ H2 _ I2 q2) fun vu s3 ⟨u,H3,I3,pu,q3⟩=>?_);rw[evalPart_none];refine aI ?_;have I4:Inv X pins σ H3 { s3 with heap:=s3.heap.push { cls:=.type "slice",data:=.fields #[vl,vu,.none] } }:=I3.kept (t':=s3.toks) fun b ob q=>Heap.get?_push_of_some _ q
 obtain⟨T,id,hT,ht,hg⟩:=hr pins { s3 with heap:=s3.heap.push { cls:=.type "slice",data:=.fields #[vl,vu,.none] } } σ H3 x v vl vu l u s3.heap.objs.size Q I4 r1 (Heap.IsSliceOf.new ..) pl pu q3;show wpAny (model X.prog X.w) X.A (subscriptTail e (.Slice lo hi none p2) v (.ref s3.heap.objs.size)) (EP X pins σ Q) X.xe { s3 with heap:=s3.heap.push { cls:=.type "slice",data:=.fields #[vl,vu,.none] } };exact tail_any (ops:=[.ref s3.heap.objs.size,v]) ht hT hg ou
def ir(xs:List V)(lo hi:Option Int):List V:=(xs.drop (HT.fb xs.length 0 lo)).take (HT.fb xs.length xs.length hi-HT.fb xs.length 0 lo)
theorem qm(xs:List V)(lo hi:Option Int):(ir xs lo hi).length <= xs.length:=by
 unfold ir;rw[bE,dA];exact oo
def Qe(K:W.Frag):V->Option Int->Option Int->Hp->VK->Prop:=fun x lo hi H Q=>∃ a xs,x=.ref a/\SqT K H a xs /\
 ¬(HT.fb xs.length 0 lo=0/\HT.fb xs.length xs.length hi=xs.length)/\∀ p,H p=none->Q (.ref p) (upd H p (.tup (ir xs lo hi)))
theorem Mh:Q4 X (Qe X.K):=by
 intro pins s σ H x v vl vu lo hi sl Q I rx hs pl pu h;obtain⟨a,xs,rfl,hx,hw,q⟩:=h;cases rx;obtain⟨its,r,ht,hz⟩:=I.tuple hx;have hlen:its.toArray.size=xs.length:=by rw[ah];exact r.length.symm
 refine⟨"tuple",_,i4.lookup,ht.typeIs,?_⟩;refine HT.l7 ht hs pl pu (by rw[hlen];exact hw) ?_ (by rw[hlen];exact hz);rw[hlen];refine⟨.ref s.heap.objs.size,_,I.laid (t':=s.toks) (o:=.tup (ir xs lo hi)) (fun b ob q=>Heap.get?_push_of_some _ q) (qnr _) ?_,Z,q _ (I.hok.fresh (qnr _))⟩;exact⟨fA (qm xs lo hi) hz,_,(r.drop (HT.fb xs.length 0 lo)).take (HT.fb xs.length xs.length hi-HT.fb xs.length 0 lo),iA.new _ _⟩
inductive L8(K:W.Frag)(x:V)(y:V)(H:Hp)(Q:VK):Prop
 |mk(a b xs ys:_)(_:x=.ref a)(_:y=.ref b)(_:SqT K H a xs)(_:SqT K H b ys)(_:xs≠[])(_:xs.length+ys.length<=sizeLine)(_:(ys=[]->Q (.ref a) H))(_:(ys≠[]->∀ p,H p=none->Q (.ref p) (upd H p (.tup (xs++ys)))))
theorem Vals.nz(r:Vals xs us):us=[]↔xs=[]:=by
 cases r with
 |nil=>simp
 |cons _ _=>simp
theorem J4:iX X (binaryOp .Add) (L8 X.K):=by
 intro pins s σ H x y v u Q I rx ry h;obtain⟨a,b,xs,ys,rfl,rfl,ha,hb,hx,hz,q1,q2⟩:=h;cases rx;cases ry;obtain⟨its,r1,p1,_⟩:=I.tuple ha;obtain⟨nh,r2,p2,_⟩:=I.tuple hb;refine HT.ED p1 p2 (fun z=>hx (r1.nz.mp z)) (fun z=>⟨.ref a,H,I,rfl,q1 (r2.nz.mp z)⟩) (fun z=>?_) (by rw[<- r1.length,<- r2.length];exact hz);refine⟨.ref s.heap.objs.size,_,I.laid (t':=s.toks) (o:=.tup (xs++ys)) (fun b ob q=>Heap.get?_push_of_some _ q) (qnr _) ?_,Z,q2 (fun w=>z (r2.nz.mpr w)) _ (I.hok.fresh (qnr _))⟩;exact⟨by rw[aS];exact hz,_,r1.append r2,iA.new _ _⟩
end
def ixN(n:Nat)(i:Int):Option Nat:=if 0<=i then(if i<n then some i.toNat else none)else if -(n:Int)<=i then some (i+n).toNat else none
def qo{α:Type}(xs:List α)(i:Int):Option α:=(ixN xs.length i).bind fun j=>xs[j]?
theorem J5{i:Int}(h:ixN n i=some j):seqIndex? i n=some j/\j<n/\-(n:Int)<=i/\i<n:=by
 unfold ixN at h
 by_cases h0:0<=i
 ·rw[b6 h0]at h
  by_cases h1:i<n
  ·rw[b6 h1]at h
   have e:i.toNat=j:=iE h;exact⟨by rw[seqIndex_of h0 h1,e],oo,oo,h1⟩
  rw[bq h1]at h;cases h
 rw[bq h0]at h
 by_cases h1 : -(n:Int)<=i
 ·rw[b6 h1]at h
  have e:(i+n).toNat=j:=iE h;exact⟨by rw[seqIndex_neg oo h1,e],oo,h1,oo⟩
 rw[bq h1]at h;cases h
theorem tG{α:Type}{xs:List α}{i:Int}{v:α}(h:qo xs i=some v):∃ j,seqIndex? i xs.length=some j/\xs[j]?=some v/\j<xs.length/\-(xs.length:Int)<=i/\i<xs.length:=by
 unfold qo at h;cases e:ixN xs.length i with
 |none=>rw[e]at h;cases h
 | some j =>
  rw[e]at h;obtain⟨h1,h2,h3,h4⟩:=J5 e;exact⟨j,h1,h,h2,h3,h4⟩
theorem bR{α:Type}{xs:List α}{v:α}(h:xs[j]?=some v):qo xs (j:Int)=some v:=by
 have hj:j<xs.length:=(List.getElem?_eq_some_iff.mp h).1
 have e:ixN xs.length (j:Int)=some j:=by
  unfold ixN;rw[b6 oo,b6 oo];simp
 unfold qo;rw[e];exact h
theorem qI{α:Type}(xs:List α)(v:α):qo (xs++[v]) (-1)=some v:=by
 have hl:(xs++[v]).length=xs.length+1:=by simp
 have e:ixN (xs++[v]).length (-1)=some xs.length:=by
  unfold ixN;rw[hl,bq odz,b6 oo]
  congr 1
  exact oo
 unfold qo;rw[e];show(xs++[v])[xs.length]?=some v;simp
def yG(b:Expr):Prop:=∀ o i,subscripted b false o i=operate [o,i] (getItem o i)
def J_(X:Cx)(r:R2):Prop :=
 ∀(value slice:Expr)(pins:List (Addr×Obj))(s:Shared)(σ:St)(H:Hp)(x y:V)(v u:Value)(Q:VK),Inv X pins σ H s->RelV x v->RelV y u->r x y H Q ->
  subscripted slice false v u=operate [v,u] (getItem v u)->wpAny (model X.prog X.w) X.A (subscriptTail value slice v u) (EP X pins σ Q) X.xe s
def sC(X:Cx)(id:String)(r:V->List V->Hp->VK->Prop):Prop :=
 ∀(pins:List (Addr×Obj))(s:Shared)(σ:St)(H:Hp)(x:V)(xs:List V)(v:Value)(us:List Value)(Q:VK),Inv X pins σ H s->RelV x v->Vals xs us->r x xs H Q ->
  wpAny (model X.prog X.w) X.A (call (.builtin id) (v::us)) (EP X pins σ Q) X.xe s
section
variable{a b:Expr}
theorem Oo(hr:J_ X r)(ha:PE X a ta)(hb:PE X b tb)(hs:yG b):PE X (.Subscript a b pos) (LN r ta tb):=by
 intro pins s σ H Q I h;exact Subscript_ (Gk ha hb I h fun v u s2 x y H2 I2 rx ry q=>hr a b pins s2 σ H2 x y v u Q I2 rx ry q (hs _ _))
theorem cy(hr:J_ X r)(ha:PE X a ta)(hb:PE X b tb)(hs:yG b:=by exact fun _ _=>rfl):PE X (.Subscript a b pos) (LN r ta tb):=Oo hr ha hb hs
inductive L7(K:W.Frag)(x:V)(y:V)(H:Hp)(Q:VK):Prop
 |mk(p xs i v:_)(_:x=.ref p)(_:y=.int i)(_:SqL K H p xs)(_:qo xs i=some v)(_:Q v H)
inductive L6(K:W.Frag)(x:V)(y:V)(H:Hp)(Q:VK):Prop
 |mk(p xs i v:_)(_:x=.ref p)(_:y=.int i)(_:SqT K H p xs)(_:qo xs i=some v)(_:Q v H)
inductive Ru(x:V)(y:V)(H:Hp)(Q:VK):Prop
 |mk(z i c:_)(_:x=.str z)(_:y=.int i)(_:z.length<=sizeLine)(_:qo z.cps.toList i=some c)(_:Q (.str ⟨#[c]⟩) H)
theorem bB:J_ X (L7 X.K):=by
 intro value slice pins s σ H x y v u Q I rx ry h hs;obtain⟨p,xs,i,z,rfl,rfl,hq,he,q⟩:=h;cases rx;obtain⟨t,rfl⟩:=ry;obtain⟨its,r,pl,hz⟩:=I.list hq;obtain⟨j,h1,h2,h3,h4,h5⟩:=tG he;obtain⟨w,ew,qc⟩:=r.get h2;have hl:=r.length;have hn:=mC;have fin:EP X pins σ Q w s:=⟨z,H,I,qc,q⟩
 by_cases h0:0<=i
 ·have hj:i.toNat=j:=by
   rw[seqIndex_of h0 h5]at h1;exact iE h1
  exact item_listR pl.isList h0 oo (by rw[hj];simpa using ew) fin hs
 have hj:(i+(its.toArray.size:Int)).toNat=j:=by
  rw[seqIndex_neg oo h4]at h1;rw[ah,<- hl];exact iE h1
 exact subscriptTail_builtinR (x:=w) pl.isList.typeIs slot_list_getitem.lookup
  (wpAny_getItem_list_neg (Q:=fun r s'=>r=w/\EP X pins σ Q r s') pl.isList oo (by rw[ah]<;>exact oo) oo (by rw[hj];simpa using ew) ⟨rfl,fin⟩) hs
theorem aJ:J_ X (L6 X.K):=by
 intro value slice pins s σ H x y v u Q I rx ry h hs;obtain⟨p,xs,i,z,rfl,rfl,hq,he,q⟩:=h;cases rx;obtain⟨t,rfl⟩:=ry;obtain⟨its,r,pl,hz⟩:=I.tuple hq;obtain⟨j,h1,h2,h3,h4,h5⟩:=tG he;obtain⟨w,ew,qc⟩:=r.get h2;have hl:=r.length;have hn:=mC;have fin:EP X pins σ Q w s:=⟨z,H,I,qc,q⟩
 exact subscriptTail_builtinR (x:=w) pl.typeIs slot_tuple_getitem.lookup
  (getItem_tuple (j:=j) (Q:=fun r s'=>r=w/\EP X pins σ Q r s') pl oo oo (by rw[ah,<- hl];exact h1) (by simpa using ew) ⟨rfl,fin⟩) hs
theorem oG:J_ X Ru:=by
 intro value slice pins s σ H x y v u Q I rx ry h hs;obtain⟨z,i,c,rfl,rfl,hz,he,q⟩:=h;obtain⟨t,rfl⟩:=rx;obtain⟨t',rfl⟩:=ry;obtain⟨j,h1,h2,h3,h4,h5⟩:=tG he;have hl:z.cps.toList.length=z.length:=by simp[Str.length]
 rw[hl]at h1 h4 h5;have hn:=mC
 exact tail_any (mI s z t) slot_str_getitem.lookup (getItem_str (c:=c) (by
  have e1:decide (i < -(2^63:Int))=false:=gp oo;have e2:decide (i ≥ 2^63)=false:=gp oo
  rw[e1,e2,Bool.or_false]) (by rw[h1];simpa using h2) ⟨.str ⟨#[c]⟩,H,I.tok _,⟨_,rfl⟩,q⟩) hs
theorem vZ(lo hi:Option Int)(n:Nat):(sliceBounds lo hi none n).1=((HT.fb n 0 lo:Nat):Int)/\(sliceBounds lo hi none n).2.1=((HT.fb n n hi:Nat):Int)/\(sliceBounds lo hi none n).2.2=1:=by
 refine⟨?_,?_,Z⟩
 ·cases lo with
  |none=>simp[sliceBounds,HT.fb]
  | some i =>
   simp only[sliceBounds,HT.fb,Option.getD_none,show(1:Int)>0 by decide,i_]
   by_cases h:i<0
   ·simp only[h,i_]<;>exact oo
   simp only[h,mM]<;>exact oo
 cases hi with
 |none=>simp[sliceBounds,HT.fb]
 | some i =>
  simp only[sliceBounds,HT.fb,Option.getD_none,show(1:Int)>0 by decide,i_]
  by_cases h:i<0
  ·simp only[h,i_]<;>exact oo
  simp only[h,mM]<;>exact oo
theorem vg(its:List Value)(lo hi:Option Int):slicePick its.toArray lo hi none=((its.drop (HT.fb its.length 0 lo)).take (HT.fb its.length its.length hi-HT.fb its.length 0 lo)).toArray:=by
 obtain⟨h1,h2,h3⟩:=vZ lo hi its.toArray.size;unfold slicePick;rw[h1,h2,h3];simp only[sliceRange_one,pick_run,ah]<;>rfl
def Qf(K:W.Frag):V->Option Int->Option Int->Hp->VK->Prop:=fun x lo hi H Q=>∃ a xs,x=.ref a/\SqL K H a xs/\∀ p,H p=none->Q (.ref p) (upd H p (.lst (ir xs lo hi)))
theorem tH:Q4 X (Qf X.K):=by
 intro pins s σ H x v vl vu lo hi sl Q I rx hs pl pu h;obtain⟨a,xs,rfl,hx,q⟩:=h;cases rx;obtain⟨its,r,ht,hz⟩:=I.list hx;have hlen:=r.length;refine⟨"list",_,slot_list_getitem.lookup,ht.isList.typeIs,?_⟩;refine wpAny_getItem_list_slice ht.isList hs pl pu .none oz ?_ (by rw[ah]<;>exact oo);rw[vg,<- hlen];refine⟨.ref s.heap.objs.size,_,I.laid (t':=s.toks) (o:=.lst (ir xs lo hi)) (fun b ob q=>Heap.get?_push_of_some _ q) (qnr _) ?_,Z,q _ (I.hok.fresh (qnr _))⟩;exact⟨fA (qm xs lo hi) hz,_,0,(r.drop (HT.fb xs.length 0 lo)).take (HT.fb xs.length xs.length hi-HT.fb xs.length 0 lo),Heap.get?_push_size _ rfl⟩
def eZ:V->Bool
 | .non=>true
 | .bl _=>true
 | .int _=>true
 | .str _=>true
 |_=>false
def l9:V->V->Bool
 | .non,.non=>true
 | .bl a,.bl b=>a==b
 | .bl a,.int b=>(if a then 1 else 0)==b
 | .int a,.bl b=>a==(if b then 1 else 0)
 | .int a,.int b=>a==b
 | .str a,.str b=>a==b
 |_,_=>false
theorem Mi{x:V}{v:Value}(ry:RelV y u)(rx:RelV x v)(fy:eZ y=true)(fx:eZ x=true):SeqAt.EqAt A s u v (l9 y x):=by
 cases y with
 | non =>
  cases ry;cases x with
  |non=>cases rx;exact SeqAt.EqAt.same _
  |bl b=>cases rx;exact SeqAt.EqAt.none_bool b
  |int b=>obtain⟨t,rfl⟩:=rx;exact SeqAt.EqAt.none_int b t
  |str b=>obtain⟨t,rfl⟩:=rx;exact SeqAt.EqAt.none_str b t
  |_=>exact absurd (show false=true from fx) gc
 | bl a =>
  cases ry;cases x with
  |non=>cases rx;exact SeqAt.EqAt.bool_none a
  |bl b=>cases rx;exact SeqAt.EqAt.bool_bool a b
  |int b=>obtain⟨t,rfl⟩:=rx;exact SeqAt.EqAt.bool_int a b t
  |str b=>obtain⟨t,rfl⟩:=rx;exact SeqAt.EqAt.bool_str a b t
  |_=>exact absurd (show false=true from fx) gc
 | int a =>
  obtain⟨t',rfl⟩:=ry;cases x with
  |non=>cases rx;exact SeqAt.EqAt.int_none a t'
  |bl b=>cases rx;exact SeqAt.EqAt.int_bool a t' b
  |int b=>obtain⟨t,rfl⟩:=rx;exact SeqAt.EqAt.int_int a t' b t
  |str b=>obtain⟨t,rfl⟩:=rx;exact SeqAt.EqAt.int_str a t' b t
  |_=>exact absurd (show false=true from fx) gc
 | str a =>
  obtain⟨t',rfl⟩:=ry;cases x with
  |non=>cases rx;exact SeqAt.EqAt.str_none a t'
  |bl b=>cases rx;exact SeqAt.EqAt.str_bool a t' b
  |int b=>obtain⟨t,rfl⟩:=rx;exact SeqAt.EqAt.str_int a t' b t
  |str b=>obtain⟨t,rfl⟩:=rx;exact SeqAt.EqAt.str_str a t' b t
  |_=>exact absurd (show false=true from fx) gc
 |_=>exact absurd (show false=true from fy) gc
def o_(x:V)(u:Value):Bool:=match u with
 | .none=>l9 .non x
 | .bool b=>l9 (.bl b) x
 | .int i _=>l9 (.int i) x
 | .str z _=>l9 (.str z) x
 |_=>false
theorem rM{x:V}(r:RelV y u)(f:eZ y=true):o_ x u=l9 y x:=by
 cases y with
 |non=>cases r;rfl
 |bl b=>cases r;rfl
 |int i=>obtain⟨t,rfl⟩:=r;rfl
 |str z=>obtain⟨t,rfl⟩:=r;rfl
 |_=>exact absurd (show false=true from f) gc
theorem mD{x:V}:∀{xs:List V}{us:List Value},Vals xs us->xs.all eZ=true->us.any (o_ x)=xs.any fun y=>l9 y x
 |_,_,.nil,_=>rfl
 | y::xs,u::us,.cons r t,f=>by
  rw[js,dE]at f;rw[ja,ja,rM r f.1,mD t f.2]
theorem iu{A:Around}{s:Shared}{x:V}{v:Value}(rx:RelV x v)(fx:eZ x=true):∀{xs:List V}{us:List Value},Vals xs us->xs.all eZ=true->∀ u∈us,SeqAt.EqAt A s u v (o_ x u)
 |_,_,.nil,_=>fun u hu=>by cases hu
 | y::xs,u::us,.cons r t,f=>fun u' hu=>by
  rw[js,dE]at f;rcases av.mp hu with rfl|hu
  ·rw[rM r f.1];exact Mi r rx f.1 fx
  exact iu rx fx t f.2 u' hu
def vj(x:V)(xs:List V):Bool:=xs.any fun y=>l9 y x
inductive Rv(K:W.Frag)(neg:Bool)(x:V)(y:V)(H:Hp)(Q:VK):Prop
 |mk(p xs:_)(_:y=.ref p)(_:(SqL K H p xs\/SqT K H p xs))(_:eZ x=true)(_:xs.all eZ=true)(_:Q (.bl (if neg then !vj x xs else vj x xs)) H)
theorem fQ:iX X (compareOp .In) (Rv X.K false):=by
 intro pins s σ H x y v u Q I rx ry h;obtain⟨p,xs,rfl,hq,fx,fs,q⟩:=h;cases ry;rcases hq with hq|hq
 ·obtain⟨its,r,pl,hz⟩:=I.list hq
  refine SeqAt.in_listAt (o_ x) pl.isList (fun w hw=>iu rx fx r fs w (by simpa using hw)) ⟨.bl _,H,I,rfl,?_⟩;rw[show its.toArray.any (o_ x)=its.any (o_ x)by simp,mD r fs];exact q
 obtain⟨its,r,pl,hz⟩:=I.tuple hq;refine SeqAt.in_tupleAt (o_ x) pl (fun w hw=>iu rx fx r fs w (by simpa using hw)) ⟨.bl _,H,I,rfl,?_⟩;rw[show its.toArray.any (o_ x)=its.any (o_ x)by simp,mD r fs];exact q
theorem wg:iX X (compareOp .NotIn) (Rv X.K true):=by
 intro pins s σ H x y v u Q I rx ry h;obtain⟨p,xs,rfl,hq,fx,fs,q⟩:=h;cases ry;rcases hq with hq|hq
 ·obtain⟨its,r,pl,hz⟩:=I.list hq
  refine SeqAt.notIn_listAt (o_ x) pl.isList (fun w hw=>iu rx fx r fs w (by simpa using hw)) ⟨.bl _,H,I,rfl,?_⟩;rw[show its.toArray.any (o_ x)=its.any (o_ x)by simp,mD r fs];exact q
 obtain⟨its,r,pl,hz⟩:=I.tuple hq;refine SeqAt.notIn_tupleAt (o_ x) pl (fun w hw=>iu rx fx r fs w (by simpa using hw)) ⟨.bl _,H,I,rfl,?_⟩;rw[show its.toArray.any (o_ x)=its.any (o_ x)by simp,mD r fs];exact q
theorem aW:dN X (.builtin "len") (fun xs H Q=>∃ p ys,xs=[.ref p]/\(SqL X.K H p ys\/SqT X.K H p ys)/\Q (.int ys.length) H):=by
 intro pins s σ H xs us Q I r h;obtain⟨p,ys,rfl,hq,q⟩:=h;obtain⟨u,rfl,rx⟩:=vals1 r;cases rx;have hn:=mC;rcases hq with hq|hq
 ·obtain⟨its,r',pl,hz⟩:=I.list hq
  have hlen:=r'.length;exact Calls.call_len_list pl.isList (by simp only[ah]<;>exact oo) ⟨.int ys.length,H,I.tok _,⟨s.toks+1,by rw[ah,hlen]⟩,q⟩
 obtain⟨its,r',pl,hz⟩:=I.tuple hq;have hlen:=r'.length;exact len_tuple pl (by simp only[ah]<;>exact oo) ⟨.int ys.length,H,I.tok _,⟨s.toks+1,by rw[ah,hlen]⟩,q⟩
theorem kh:dN X (.builtin "len") (fun xs H Q=>∃ z,xs=[.str z]/\z.length<=sizeLine/\Q (.int z.length) H):=by
 intro pins s σ H xs us Q I r h;obtain⟨z,rfl,hz,q⟩:=h;obtain⟨u,rfl,t,rfl⟩:=vals1 r;have hn:=mC;exact len_str oo ⟨.int z.length,H,I.tok _,⟨_,rfl⟩,q⟩
theorem wj:dN X (.type "list") (fun xs H Q=>∃ p ys,xs=[.ref p]/\(SqL X.K H p ys\/SqT X.K H p ys)/\∀ l,H l=none->Q (.ref l) (upd H l (.lst ys))):=by
 intro pins s σ H xs us Q I r h;obtain⟨p,ys,rfl,hq,q⟩:=h;obtain⟨u,rfl,rx⟩:=vals1 r;cases rx
 have fin:∀(its:List Value),Vals ys its->ys.length<=sizeLine->∀(h':Heap)(c':Nat),(∀ b o',s.heap.get? b=some o'->h'.get? b=some o') ->
   h'.get? s.heap.objs.size=some { cls:=.type "list",dict:=none,data:=.seq its.toArray c',slots:=#[] }->EP X pins σ Q (.ref s.heap.objs.size) { s with heap:=h' }:=fun its r' hz h' c' kp e =>
  ⟨.ref s.heap.objs.size,_,I.laid (t':=s.toks) kp (qnr _) (show eM X.prog X.w _ h' _ (.lst ys)from⟨hz,its,c',r',e⟩),rfl,q _ (I.hok.fresh (qnr _))⟩
 rcases hq with hq|hq
 ·obtain⟨its,r',pl,hz⟩:=I.list hq
  have hlen:=r'.length;obtain⟨o,ho,hc,n,hd⟩:=pl.isList;exact call_list_seq p (.inl rfl) ho hc hd (fun h' c' kp e=>fin its r' hz h' c' kp e) (by simp only[ah]<;>exact oo)
 obtain⟨its,r',pl,hz⟩:=I.tuple hq;have hlen:=r'.length;obtain⟨o,ho,hc,n,hd⟩:=pl;exact call_list_seq p (.inr rfl) ho hc hd (fun h' c' kp e=>fin its r' hz h' c' kp e) (by simp only[ah]<;>exact oo)
theorem dC:dN X (.type "tuple") (fun xs H Q=>∃ p ys,xs=[.ref p]/\((SqL X.K H p ys/\∀ l,H l=none->Q (.ref l) (upd H l (.tup ys)))\/(SqT X.K H p ys/\Q (.ref p) H))):=by
 intro pins s σ H xs us Q I r h;obtain⟨p,ys,rfl,h⟩:=h;obtain⟨u,rfl,rx⟩:=vals1 r;cases rx;rcases h with⟨hq,q⟩|⟨hq,q⟩
 ·obtain⟨its,r',pl,hz⟩:=I.list hq
  have hlen:=r'.length;refine call_tuple_list pl.isList (fun h' kp=>?_) (by simp only[ah]<;>exact oo);have I1:Inv X pins σ H { s with heap:=h' }:=I.kept (t':=s.toks) kp
  have I2:Inv X pins σ (upd H h'.objs.size (.tup ys)) { s with heap:=h'.push { cls:=.type "tuple",data:=.seq its.toArray } } :=
   I1.laid (t':=s.toks) (fun b o e=>Heap.get?_push_of_some _ e) (qnr _) (show eM X.prog X.w _ _ _ (.tup ys)from⟨hz,its,r',iA.new _ _⟩)
  exact⟨.ref h'.objs.size,_,I2,Z,q _ (I1.hok.fresh (qnr _))⟩
 obtain⟨its,r',pl,hz⟩:=I.tuple hq;exact call_tuple_same pl ⟨.ref p,H,I,rfl,q⟩
def Rb(K:W.Frag)(T:String)(x:V)(H:Hp):Prop:=match x with
 | .str _=>T="str"
 | .int _=>T="int"
 | .ref p=>(T="list"/\∃ xs,SqL K H p xs)\/(T="tuple"/\∃ o,K.lookup p=some o/\o.cls=.type "tuple"/\o.dict=none) \/
   (T="dict"/\((∃ kvs,H p=some (.dK kvs))\/∃ kvs,H p=some (.dT kvs)))\/(T="set"/\∃ S n,H p=some (.set S n))
 |_=>False
theorem Dd{T:String}{x:V}{v:Value}(I:Inv X pins σ H s)(r:RelV x v)(ty:Rb X.K T x H): s.TypeIs v T/\∀ a,v=.ref a->∃ ob,s.heap.get? a=some ob/\ob.dict=none:=by
 cases x with
 | str z =>
  obtain⟨t,rfl⟩:=r;cases(show T="str" from ty);exact⟨mI s z t,fun _ e=>nomatch e⟩
 | int i =>
  obtain⟨t,rfl⟩:=r;cases(show T="int" from ty);exact⟨AY s i t,fun _ e=>nomatch e⟩
 | ref p =>
  cases r;rcases ty with⟨rfl,xs,hq⟩|⟨rfl,o,hk,hc,hd⟩|⟨rfl,hk⟩|⟨rfl,S,n,hk⟩
  ·obtain⟨its,_,pl,_⟩:=I.list hq
   refine⟨pl.isList.typeIs,fun a e=>?_⟩;cases e;obtain⟨o,n,e,c,hd,_⟩:=pl;exact⟨o,e,hd⟩
  ·refine⟨⟨o,I.kIn p o hk,hc⟩,fun a e=>?_⟩
   cases e;exact⟨o,I.kIn _ o hk,hd⟩
  ·have z:∃ o,s.heap.get? p=some o/\o.ExactDict:=by
    rcases hk with⟨kvs,hk⟩|⟨kvs,hk⟩
    ·obtain⟨_,_,_,_,o,_,_,e,ex,_⟩:=I.hok p _ hk
     exact⟨o,e,ex⟩
    obtain⟨_,_,_,_,o,_,_,e,ex,_⟩:=I.hok p _ hk;exact⟨o,e,ex⟩
   obtain⟨o,e,ex⟩:=z;refine⟨⟨o,e,ex.1⟩,fun a e2=>?_⟩;cases e2;exact⟨o,e,ex.2.1⟩
  obtain⟨o,_,_,_,e,ex,_⟩:=I.hok p _ hk;refine⟨⟨o,e,ex.1⟩,fun a e2=>?_⟩;cases e2;exact⟨o,e,ex.2.1⟩
 |_=>exact False.elim ty
def Qg(K:W.Frag)(T:String)(r:V->List V->Hp->VK->Prop)(to:TE):TE:=fun σ H Q=>to σ H fun x H1=>Rb K T x H1/\r x [] H1 Q
def UP(K:W.Frag)(T:String)(r:V->List V->Hp->VK->Prop)(to:TE)(t:TA):TE:=fun σ H Q=>to σ H fun x H1=>Rb K T x H1/\t σ H1 fun xs H2=>r x xs H2 Q
variable{o:Expr}{t:TA}{T id:String}{r:V->List V->Hp->VK->Prop}
theorem mF(pa:PlainAttrs T) (slot:Slot T name id) (we:typeOf (.builtin id)=pure (.type "method_descriptor")) (hm:sC X id r) (ho:PE X o to)
  (l0:attributeBase o name X.env (eval o X.env)=eval o X.env:=by rfl) (og:(apos.endLine==fq.line)=true:=by rfl):PE X (.Call (.Attribute o name apos) [] [] fq) (Qg X.K T r to):=by
 intro pins s σ H Q I h;refine wpAny_Call_method0_late l0 og (thn (ho pins s σ H _ I h) fun v s1 ⟨x,H1,I1,r1,ty,q1⟩=>?_);obtain⟨h1,h2⟩:=Dd I1 r1 ty;exact⟨T,id,pa,slot,we,h1,h2,qa rfl (PySem.evalArgs_none (hm pins s1 σ H1 x [] v [] Q I1 r1 .nil q1))⟩
theorem bY(pa:PlainAttrs T) (slot:Slot T name id) (we:typeOf (.builtin id)=pure (.type "method_descriptor")) (hm:sC X id r) (ho:PE X o to) (ha:PA X (e::es) t)
  (l0:attributeBase o name X.env (eval o X.env)=eval o X.env:=by rfl)
  (AR:((backTo fq (starEach (e::es) X.env)).all (fun x=>!x.1)&&(backToKw fq (keywordEach [] X.env)).all (fun x=>x.1.isSome)
   && decide ((e::es).length+([]:List Keyword).length+(if ([]:List Keyword).isEmpty then 0 else 1)<30))=true:=by rfl)
  (og:(apos.endLine==fq.line)=true:=by rfl) (hs:starEach (e::es) X.env=(false,eval e X.env):: starEach es X.env:=by rfl) (n_:(backTo fq (starEach es X.env)).any (·.1)=false:=by rfl):
  PE X (.Call (.Attribute o name apos) (e::es) [] fq) (UP X.K T r to t):=by
 intro pins s σ H Q I h;refine wpAny_Call_method_late l0 AR og rfl (thn (ho pins s σ H _ I h) fun v s1 ⟨x,H1,I1,r1,ty,q1⟩=>?_);obtain⟨h1,h2⟩:=Dd I1 r1 ty;refine⟨T,id,pa,slot,we,h1,h2,?_⟩;have hA:=ha fq pins s1 σ H1 _ I1 q1;rw[hs]at hA ⊢;refine qa (by show(false||(backTo fq (starEach es X.env)).any (·.1))=false;rw[n_]<;>rfl) (uk ?_);exact thn hA fun us s2 ⟨vs,H2,I2,r2,q2⟩=>hm pins s2 σ H2 x vs v us Q I2 r1 r2 q2
/- xs.append(e),list.index on a module's tuple .. are sC facts of 06m -/
end
def Ux(X:Cx)(id:String)(r:V->List V->Hp->VK->Prop):Prop :=
 ∀(pins:List (Addr×Obj))(s:Shared)(σ:St)(H:Hp)(x:V)(xs:List V)(v:Value)(us:List Value)(Q:VK),Inv X pins σ H s->RelV x v->Vals xs us->r x xs H Q ->
  wpAny (model X.prog X.w) X.A (call (.builtin id) (v::us)) (EP X pins σ Q) X.xe s
theorem Vals.one:∀{x:V}{us:List Value},Vals [x] us->∃ u,us=[u]/\RelV x u
 |_,_,.cons r .nil=>⟨_,rfl,r⟩
theorem Vals.zero:∀{us:List Value},Vals [] us->us=[]
 |_,.nil=>rfl
theorem Vals.dropLast(h:Vals xs us):Vals xs.dropLast us.dropLast:=by
 induction h with
 |nil=>exact .nil
 | cons r t ih =>
  cases t with
  |nil=>exact .nil
  |cons q t'=>exact .cons r ih
theorem Vals.rep{xs:List V}{us:List Value}(h:Vals xs us):∀ k:Nat,Vals (List.replicate k xs).flatten (List.replicate k us).flatten
 | 0=>.nil
 | k+1=>by
  rw[g0,g0,lP,lP];exact Vals.append h (Vals.rep h k)
theorem Ay{α:Type}(l:List α):l.eraseIdx (l.length-1)=l.dropLast:=by
 induction l with
 |nil=>rfl
 | cons a r ih =>
  cases r with
  |nil=>rfl
  | cons b r =>
   have e:(a::b::r).length-1=((b::r).length-1)+1:=by
    have h1:(a::b::r).length=r.length+2:=rfl;have h2:(b::r).length=r.length+1:=rfl;exact oo
   rw[e,List.eraseIdx_cons_succ,ih]
   all_goals rfl
theorem foldl_rep(its:List Value):∀(k:Nat)(acc:List Value), List.foldl (fun x1 x2=>x1++x2) acc.toArray (List.replicate k its.toArray)=(acc++(List.replicate k its).flatten).toArray
 | 0,acc=>by simp
 | k + 1,acc=>by
  have e:acc.toArray++its.toArray=(acc++its).toArray:=by simp
  have e2:(acc++its)++(List.replicate k its).flatten=acc++(List.replicate (k+1) its).flatten:=by
   rw[g0,lP,c_]
  rw[<- e2,<- foldl_rep its k (acc++its),<- e,g0,eS]
section
variable{l:Addr}{ys zs:List V}
theorem Inv.HU{its its':List Value}{f:Array Value->Array Value}(I:Inv X pins σ H s)(hH:H l=some (.lst xs))(e:s.heap.get? l=some { cls:=.type "list",data:=.seq its.toArray n })(hf:f its.toArray=its'.toArray)(hv:Vals ys its')(hz:ys.length<=sizeLine): Inv X pins σ (upd H l (.lst ys)) { s with heap:=s.heap.update l (Obj.mapSeq f),toks:=t' }:=by
 have q:=PySem.IsL.update e f;rw[hf]at q;refine I.write (x:=l) (e:=l) (by rw[hH];exact trivial) (.inl rfl) (fun b' u hb hu=>(Heap.get?_update_other s.heap (Obj.mapSeq f) (ba hb)).trans hu) ⟨_,q⟩ ?_;exact⟨hz,its',_,hv,q⟩
theorem Inv.HV{its:List Value}(I:Inv X pins σ H s)(hv:Vals ys its)(hz:ys.length<=sizeLine): Inv X pins σ (upd H s.heap.objs.size (.lst ys)) { s with heap:=s.heap.push { cls:=.type "list",data:=.seq its.toArray },toks:=t' } :=
 I.laid (fun _ _ q=>Heap.get?_push_of_some _ q) (qnr _) ⟨hz,its,0,hv,Heap.get?_push_size _ rfl⟩
theorem Inv.fresh(I:Inv X pins σ H s):H s.heap.objs.size=none:=I.hok.fresh (qnr _)
theorem Inv.sQ(I:Inv X pins σ H s)(hH:H l=some (.lst xs)):xs.length<=sizeLine/\∃(its:List Value) (n:Nat),Vals xs its/\xs.length=its.length/\s.heap.get? l=some { cls:=.type "list",data:=.seq its.toArray n }:=by
 obtain⟨z,its,n,r,e⟩:=I.hok l _ hH;exact⟨z,its,n,r,r.length,e⟩
theorem wk(h:n<=sizeLine):Builtin.List.listTooLong n=false:=by
 unfold Builtin.List.listTooLong;exact gp oo
end
inductive nv(x:V)(vs:List V)(H:Hp)(Q:VK):Prop
 |mk(l xs y:_)(_:x=.ref l)(_:vs=[y])(_:H l=some (.lst xs))(_:xs.length<sizeLine)(_:Q .non (upd H l (.lst (xs++[y]))))
theorem cL:Ux X "list.append" nv:=by
 intro pins s σ H x vs v us Q I rx rv h;obtain⟨l,xs,y,rfl,rfl,hH,hz,q⟩:=h;cases rx;obtain⟨u,rfl,ru⟩:=rv.one;obtain⟨z,its,n,r,hl,e⟩:=I.sQ hH;refine fv F.slot_list_append ⟨_,e,rfl⟩ F.entry_list_append (F.args_list_append_2 _ _) (PySem.list_append l its.toArray n u (by rw[ah];exact oo)) ⟨e,?_⟩;refine⟨.non,_,I.HU (its':=its++[u]) hH e oz (r.append (.cons ru .nil)) ?_,Z,q⟩;rw[aS,i6];exact oo
inductive DL(x:V)(vs:List V)(H:Hp)(Q:VK):Prop
 |mk(l b xs zs:_)(_:x=.ref l)(_:vs=[.ref b])(_:H l=some (.lst xs))(_:H b=some (.lst zs))(_:xs.length+zs.length<=sizeLine)(_:Q .non (upd H l (.lst (xs++zs))))
theorem De:Ux X "list.extend" DL:=by
 intro pins s σ H x vs v us Q I rx rv h;obtain⟨l,b,xs,zs,rfl,rfl,hH,hB,hz,q⟩:=h;cases rx;obtain⟨u,rfl,ru⟩:=rv.one;cases ru;obtain⟨z,its,n,r,hl,e⟩:=I.sQ hH;obtain⟨z2,nh,n2,r2,ko,e2⟩:=I.sQ hB;have hsz:its.toArray.size+nh.toArray.size<=sizeLine:=by rw[ah,ah];exact oo
 have AM:¬(!its.toArray.isEmpty&&Builtin.List.listTooLong (its.toArray.size+nh.toArray.size))=true:=by
  rw[wk hsz,oP];exact gc
 refine fv F.slot_list_extend ⟨_,e,rfl⟩ F.entry_list_extend (F.args_list_extend_2 _ _)
  (AutoSeq1.list_extend_list_list_0 l its.toArray n b nh.toArray n2 AM (by rw[ah];exact oo) oo) ⟨e,e2,?_⟩
 refine⟨.non,_,I.HU (its':=its++nh) hH e oz (r.append r2) ?_,Z,q⟩;rw[aS];exact oo
inductive Rt(x:V)(vs:List V)(H:Hp)(Q:VK):Prop
 |mk(l xs y:_)(_:x=.ref l)(_:vs=[])(_:H l=some (.lst xs))(_:xs[xs.length-1]?=some y)(_:Q y (upd H l (.lst xs.dropLast)))
theorem oH:Ux X "list.pop" Rt:=by
 intro pins s σ H x vs v us Q I rx rv h;obtain⟨l,xs,y,rfl,rfl,hH,hy,q⟩:=h;cases rx;have H_:=rv.zero;subst H_;obtain⟨z,its,n,r,hl,e⟩:=I.sQ hH;obtain⟨u,hu,ru⟩:=r.get hy
 have P6:its.toArray[its.toArray.size-1]?=some u:=by
  show its.toArray[its.length-1]?=some u;rw[<- Array.getElem?_toList,<- hl];exact hu
 refine fv F.slot_list_pop ⟨_,e,rfl⟩ F.entry_list_pop (F.args_list_pop_1 _) (MeetsSeq.list_pop_last l its.toArray n u P6 (by rw[ah];exact oo)) ⟨e,?_⟩;refine⟨y,_,I.HU (its':=its.dropLast) hH e ?_ r.dropLast ?_,ru,q⟩
 ·show its.toArray.eraseIdxIfInBounds (its.toArray.size-1)=its.dropLast.toArray
  rw[ah,List.eraseIdxIfInBounds_toArray,Ay]
 rw[List.length_dropLast];exact oo
inductive Rw(x:V)(y:V)(H:Hp)(Q:VK):Prop
 |mk(l b xs zs:_)(_:x=.ref l)(_:y=.ref b)(_:H l=some (.lst xs))(_:H b=some (.lst zs))(_:xs.length+zs.length<=sizeLine)(_:∀ p,H p=none->Q (.ref p) (upd H p (.lst (xs++zs))))
theorem wu:iX X (binaryOp .Add) Rw:=by
 intro pins s σ H x y v u Q I rx ry h;obtain⟨l,b,xs,zs,rfl,rfl,hH,hB,hz,q⟩:=h;cases rx;cases ry;obtain⟨z,its,n,r,hl,e⟩:=I.sQ hH;obtain⟨z2,nh,n2,r2,ko,e2⟩:=I.sQ hB;refine PySem.P.add_list e e2 ?_ (by rw[ah,ah];exact oo);have ea:its.toArray++nh.toArray=(its++nh).toArray:=by simp
 rw[ea];exact⟨.ref _,_,I.HV (t':=s.toks) (r.append r2) (by rw[aS];exact oo),Z,q _ I.fresh⟩
inductive Rr(x:V)(y:V)(H:Hp)(Q:VK):Prop
 |mk(l k xs:_)(_:x=.ref l)(_:y=.int k)(_:H l=some (.lst xs))(_ : -(2^63)<=k)(_:k<2^63)(_:xs.length*k.toNat<=sizeLine)(_:∀ p,H p=none->Q (.ref p) (upd H p (.lst (List.replicate k.toNat xs).flatten)))
theorem len_rep{α:Type}(xs:List α)(k:Nat):(List.replicate k xs).flatten.length=k*xs.length:=by
 induction k with
 |zero=>simp
 |succ k ih=>rw[g0,lP,aS,ih,Nat.succ_mul,Nat.add_comm]
theorem Mj:iX X (binaryOp .Mult) Rr:=by
 intro pins s σ H x y v u Q I rx ry h;obtain⟨l,k,xs,rfl,rfl,hH,h1,h2,hz,q⟩:=h;cases rx;obtain⟨t,rfl⟩:=ry;obtain⟨z,its,n,r,hl,e⟩:=I.sQ hH;have hlen:its.toArray.size*k.toNat<=sizeLine:=by rw[ah,<- hl];exact hz
 have SD:¬its.toArray.size*k.toNat>(2^63-1)/8:=by
  have:(sizeLine:Nat)<=(2^63-1)/8:=by decide
  exact oo
 have Sy:¬(!Builtin.List.listFitsIndex k)=true:=by
  rw[fitsIndex_both h1 h2];exact gc
 have AM:¬Builtin.List.listTooLong (its.toArray.size*k.toNat)=true:=by
  rw[wk hlen];exact gc
 have Sa:List.foldl (fun x1 x2=>x1++x2) #[] (List.replicate (if its.toArray.isEmpty=true then 0 else k.toNat) its.toArray)=(List.replicate k.toNat its).flatten.toArray:=by
  have f0:∀ m:Nat,List.foldl (fun x1 x2=>x1++x2) #[] (List.replicate m its.toArray)=(List.replicate m its).flatten.toArray:=fun m=>by
   have:=foldl_rep its m [];rw[Bi]at this;exact this
  rw[f0];cases its with
  |nil=>simp
  |cons a r'=>rw[bq oz]
 refine wpAny_binaryOp_repeat_ref (T := "list") (U := "int") odz ⟨_,e,rfl⟩ (fun s'=>AY s' k t) noFill_list_mul F.fills_int_mul qr repeat_list F.slot_int_index.lookup
  (fv qr (AY s k t) F.entry_int_rmul (F.args_int_rmul_2 _ _) (int___rmul___int_list k t l its.toArray n)
   ⟨e,rfl,⟨_,e,rfl⟩,fv F.slot_list_mul ⟨_,e,rfl⟩ F.entry_list_mul (F.args_list_mul_2 _ _) (AutoListH.list___mul___list_int_3 l its.toArray n k t Sy SD AM) ⟨e,?_⟩⟩)
 rw[Sa];exact⟨.ref _,_,I.HV (t':=s.toks) (r.rep k.toNat) (by rw[len_rep,kz];exact hz),Z,q _ I.fresh⟩
end L2
namespace ZO
open PySem PySem.W PySem.Calls PyProof.Rows
theorem rN{P:Params}:∀(ns:List Int)(vs:List Value),WellAll P h vs (ns.map WData.int)->IntsAre vs ns:=by
 intro ns
 induction ns with
 | nil =>
  intro vs w;rw[ui]at w;cases w;exact .nil
 | cons n ns ih =>
  intro vs w;rw[b3]at w;cases w with
  | cons a b =>
   cases a;exact .cons _ _ (ih _ b)
theorem Df{l:OpenLaw}(hn:l.most=some n){P:Params}{args:List WData}{vals:List Value}(D4:l.row.toRowW.claim.pre args=true)(hwl:WellAll P h vals args): ∃ a vs ns,vals=[Value.ref a]/\args=[WData.list (ns.map WData.int)]/\h.get? a=some { cls:=.type "list",data:=.seq vs.toArray }/\IntsAre vs ns/\ns.length<=n:=by
 have hsh:WShape.hasAll [] args [.list .int]=true:=(pre_splitW D4).1;have hc:l.pre.holds [] { args:=args }=true:=(pre_splitW D4).2;obtain⟨d,r,rfl,h1,h2⟩:=hasAllW_cons hsh;obtain rfl:=hasAllW_nil h2;obtain⟨xs,rfl,h3⟩:=hasW_list h1;obtain⟨ns,rfl⟩:=items_int h3
 have hlen:ns.length<=n:=by
  unfold OpenLaw.pre at hc
  have h4:(WTm.not (.lt (.lit (.int (n:Int))) (.len (.arg 0)))).holds [] { args:=[.list (ns.map .int)] }=true:=by
   have h4:=(holds_andW hc).1;rw[hn]at h4;exact h4
  have h5:=condW_of h4 (w_not (w_lt w_lit (w_len_list (w_arg rfl))));rw[dS]at h5;refine Nat.le_of_not_lt fun q=>?_
  have q':(n:Int)<((ns.length:Nat):Int):=oo
  first
   |(rw[cS q']at h5;exact absurd h5 odz)
   |(simp at h5;exact oo)
 cases hwl with
 | cons w1 w2 =>
  cases w2;cases w1 with
  |list ho hall=>exact⟨_,_,ns,Z,Z,ho,rN ns _ hall,hlen⟩
theorem Dg(l:OpenLaw)(args:List WData):l.row.toRowW.claim.post args (.bool true) args=true :=
 postW_of (r:=l.row.toRowW) (X:=(true==true))
  (show WShape.has [] (.bool true) .bool=true by first|rfl|decide|simp[WShape.has,WShape.arms,WShape.armsAll])
  (show(WTm.eq .res (.lit (.bool true))).value [] { args:=args,res:=some (.bool true),after:=args }=some (.bool (true==true))from w_eq_bool (w_res rfl) w_lit) rfl
theorem r6{l:OpenLaw}{XP:(Str->Option Value)->Heap->Prop}{d:DefRec}(hn:l.most=some n)(ND:d.params.defaults=[])(call:∀(w:World)(s₀ s₁:Shared)(mg mb:Str->Option Value)(fa:Addr)(o:Obj)(pm cd doc:Value)(a:Addr)(vs:List Value)(ns:List Int), Ground q loose [] XP w s₀ mg mb s₁.heap->YP w s₁.heap -> s₁.heap.get? fa=some o->o.data=.func (docDef d.name d.params d.body d.scope pm cd doc)->s₁.heap.CodeRec cd d.name->mg d.name=some (.ref fa) -> s₁.heap.get? a=some { cls:=.type "list",data:=.seq vs.toArray }->IntsAre vs ns->ns.length<=n->s₁.gens = #[] -> codeAny (model l.prog w) callerA (.call (.ref fa) ⟨[.ref a],[]⟩) (fun r s'=>r=.ok (.ret (.bool true))/\OldK s₁.heap s'.heap/\s'.os=s₁.os/\AllBare s'.gens) s₁): WalkO q loose XP YP l.row.toRowW d [] (fun f vs=>PySem.call f vs):=by
 intro w s₀ s₁ mg mb G Y fa o pm cd doc dV kV ho hd tj hD hmg hg args vals as D4 hlay MH hwl K0;obtain rfl:dV=.none:=Dflts.none hD ND;obtain rfl:kV=.none:=Dflts.noKw hD;obtain⟨a,vs,ns,rfl,rfl,IH,hints,hlen⟩:=Df hn D4 hwl;refine enter_call (pz (call w s₀ s₁ mg mb fa o pm cd doc a vs ns G Y ho (fd_plain hd) tj hmg IH hints hlen hg) fun r s' hq=>?_);obtain⟨rfl,h2,h3,h4⟩:=hq;exact⟨.inl ⟨.bool true,.bool true,[],Z,fun _=>rfl,.bool true,Dg l _,fun _=>⟨List.Pairwise.nil,fun _ hm=>(nomatch hm)⟩⟩,h2,h3,h4⟩
end ZO
namespace L2
open PySem PySem.Spec PyProof.Rows
theorem uA:∀{vs:List Value}{ns:List Int},IntsAre vs ns->Vals (ns.map V.int) vs
 |_,_,.nil=>.nil
 |_,_,.cons n t h=>.cons ⟨t,rfl⟩ (uA h)
def EF(H:Hp):Prop:=∀ b,H b=none\/∃ o xs,H b=some (.rX o (.lst xs))
theorem Gu{mb:Str->Option Value}{k:Nat}{fa:Addr}{s₁:Shared}{ns:List Int}
  (KX:K.In s₁.heap) (nE:s₁.heap.Ns mainGlobals mg) (hb:s₁.heap.Ns builtinsNs mb) (hbb:∀ x:Str,x≠"__name__"->mb x=bootBuiltins x) (Si:s₁.heap.NoLimit) (hg:s₁.gens = #[])
  (ha:s₁.heap.get? a=some { cls:=.type "list",data:=.seq vs.toArray }) (hi:IntsAre vs ns) (hl:ns.length<=sizeLine) (hr:eW k callerA)
  (F:∀ base:Heap,K.In base->base.Ns mainGlobals mg->fF P w K mg base CX k fa fd [x] sp) (NJ:∀(s:Shared)(u:Value),BindsTo s fd ⟨[u],[]⟩ [(x,u)])
  (BO:∀ H:Hp,EF H->SqL K H a (ns.map V.int)->sp [.ref a] H (fun v _=>v=.bl true) fun _ _ _=>False)
  (SQ:∀ H e s',CX [] H s₁ (fun _ _ _=>False) e s'->False):
  codeAny (model P w) callerA (.call (.ref fa) ⟨[.ref a],[]⟩) (fun r s'=>r=.ok (.ret (.bool true))/\OldK s₁.heap s'.heap/\s'.os=s₁.os/\AllBare s'.gens) s₁:=by
 have rv:=uA hi;have RE:=hi.length
 have core:∀ H:Hp,EF H->SqL K H a (ns.map V.int)->kK P w H s₁.heap->(∀ b,H b≠none->b=a)->(H a≠none->K.lookup a=none) ->
   codeAny (model P w) callerA (.call (.ref fa) ⟨[.ref a],[]⟩) (fun r s'=>r=.ok (.ret (.bool true))/\OldK s₁.heap s'.heap/\s'.os=s₁.os/\AllBare s'.gens) s₁:=by
  intro H hO hS hok hA hK;have vE:∀{b:Addr}{o:Obj},s₁.heap.get? b=some o->H b=none->(mO s₁.heap H).get? b=some o:=fun e n=>Gi e n
  have Mb:∀{b:Addr}{o:Obj}{es:Array DictEntry}{ep:Nat},s₁.heap.get? b=some o->o.data=.dict es ep->H b=none:=fun {b o es ep} e d=>by
   cases q:H b with
   |none=>rfl
   | some u =>
    have e':b=a:=hA b (by rw[q];simp);subst e';rw[ha]at e;cases e;have d':Data.seq vs.toArray _=Data.dict es ep:=d;cases d'
  have PV:∀{b:Addr}{m:Str->Option Value},s₁.heap.Ns b m->(mO s₁.heap H).Ns b m:=fun {b m} ⟨o,es,ep,e,d,r⟩=>⟨o,es,ep,vE e (Mb e d),d,r⟩
  have VS:K.In (mO s₁.heap H):=fun b o e=>vE (KX b o e) (by
   cases q:H b with
   |none=>rfl
   | some u =>
    have e':b=a:=hA b (by rw[q];simp);subst e'
    rw[hK (by rw[q];simp)]at e;cases e)
  have hM:Mod K mg (mO s₁.heap H):=⟨VS,PV nE,⟨mb,PV hb,hbb⟩,let ⟨mc,h1,h2⟩:=Si;⟨mc,PV h1,h2⟩⟩
  have e0:tJ P w K mg (mO s₁.heap H) callerA [] s₁ H:=⟨rfl,hM,fun b o e=>JQ e,ua (CG _ _),trivial,fun b hb=>absurd (show b∈([]:List Addr)from hb) oz,hok,.of_eq hg⟩
  refine pz ((F _ VS (PV nE)).run callerA [] s₁ H ⟨[.ref a],[]⟩ [.ref a] [.ref a] _ _ hr e0 (NJ s₁ (.ref a)) (.cons rfl .nil) (BO H hO hS)) fun r s' h=>?_
  cases r with
  |error e=>exact(SQ H e s' h).elim
  | ok fl =>
   cases fl with
   |next=>exact False.elim h
   |brk=>exact False.elim h
   |cont=>exact False.elim h
   | ret u =>
    obtain⟨v,H',os,bare,un,D5,r',q⟩:=h;have q':v=.bl true:=q;subst q';obtain rfl:u=Value.bool true:=r';refine⟨Z,OldK.of_keep fun b o e=>?_,os,bare⟩;cases q:H b with
    |none=>exact un.keep b o e q (by intro z;exact absurd (show b∈([]:List Addr)from z) oz) oz
    | some u =>
     rcases hO b with z|⟨ob,xs,z⟩
     ·rw[q]at z;cases z
     have z2:=un.kL b ob _ z;obtain⟨e1,_⟩:=hok b _ z;obtain⟨e2,_⟩:=D5 b _ z2;rw[e]at e1;cases e1;exact e2
 cases hk:K.lookup a with
 | some o =>
  have e:=KX a o hk;rw[ha]at e;cases e;refine core (fun _=>none) (fun _=>.inl rfl) (.inr ⟨_,vs.toArray,_,hk,rfl,rfl,rfl,by rw[ah,RE];exact hl,by simpa using rv⟩) (fun b u z=>by have z':(none:Option HO)=some u:=z;cases z') (fun b z=>absurd rfl z) fun z=>absurd rfl z
 | none =>
  refine core (fun b=>if b=a then some (.rX { cls:=.type "list",data:=.seq vs.toArray } (.lst (ns.map V.int)))else none) (fun b=>?_) (.inl (.inr ⟨{ cls:=.type "list",data:=.seq vs.toArray },b6 rfl⟩)) (fun b u z=>?_) (fun b z=>?_) fun _=>hk
  ·by_cases hb:b=a
   ·exact .inr ⟨_,_,b6 hb⟩
   exact .inl (bq hb)
  ·by_cases hb:b=a
   ·have z':=(b6 hb).symm.trans z
    cases z';subst hb;exact⟨ha,by rw[dS];exact hl,vs,_,rv,ha⟩
   have z':=(bq hb).symm.trans z;cases z'
  by_cases hb:b=a
  ·exact hb
  exact absurd (bq hb) z
abbrev KOf(_:K.In h):W.Frag:=K
theorem J6{l:W.OpenLaw}{k:Nat}{XP:(Str->Option Value)->Heap->Prop}{d:DefRec}{K:Params->W.Frag}{CX:World->r_}{sp:World->Sp}(hn:l.most=some n)(rp:n<=sizeLine)(ND:d.params.defaults=[])(hr:eW k callerA)(hY:∀(w:World)(h:Heap),YP w h->(K w.params).In h)(F:∀(w:World)(mg:Str->Option Value)(fa:Addr)(h:Heap),(K w.params).In h->h.Ns mainGlobals mg->mg d.name=some (.ref fa) -> ∃ fd:FuncData,(∀(s:Shared)(u:Value),BindsTo s fd ⟨[u],[]⟩ [(x,u)]) /\ ∀ base:Heap,(K w.params).In base->base.Ns mainGlobals mg->fF l.prog w (K w.params) mg base (CX w) k fa fd [x] (sp w))(BO:∀(w:World)(H:Hp)(a:Addr)(ns:List Int),ns.length<=n->EF H->SqL (K w.params) H a (ns.map V.int)->sp w [.ref a] H (fun v _=>v=.bl true) fun _ _ _=>False)(SQ:∀(w:World)(H:Hp)(s:Shared)(e:Value)(s':Shared),CX w [] H s (fun _ _ _=>False) e s'->False): W.WalkO q loose XP YP l.row.toRowW d [] (fun f vs=>PySem.call f vs):=by
 refine ZO.r6 hn ND fun w s₀ s₁ mg mb fa o pm cd doc a vs ns G Y ho hd tj hmg IH hints hlen hg=>?_
 have KX:=hY w _ Y;obtain⟨fd,hb,hF⟩:=F w mg fa _ KX G.T.g hmg;exact Gu KX G.T.g G.T.b G.T.builtins G.T.nolimit hg IH hints (fA hlen rp) hr hF hb (fun H hO hS=>BO w H a ns hlen hO hS) fun H e s'=>SQ w H s₁ e s'
def inClass(s:Stmt)(j:Nat):Stmt:=match s with
 | .ClassDef _ _ _ body _ _ _ _ _ _ _=>body.getD j (.Pass ⟨0,0,0,0⟩)
 |_=>.Pass ⟨0,0,0,0⟩
def gq(s:Stmt):Arguments:=match s with
 | .FunctionDef _ a _ _ _ _ _ _ _ _=>a
 |_=>{ posonlyargs:=[],args:=[],vararg:=none,kwonlyargs:=[],kw_defaults:=[],kwarg:=none,defaults:=[] }
def dW(s:Stmt):List Stmt:=match s with
 | .FunctionDef _ _ b _ _ _ _ _ _ _=>b
 |_=>[]
def aV(s:Stmt):Scope:=match s with
 | .FunctionDef _ _ _ _ _ _ sc _ _ _=>sc
 |_=>{ kind:=.function,names:=[],isGenerator:=false,isCoroutine:=false }
abbrev CX0:r_:=fun _ _ _ _ _ _=>False
abbrev E0:XK:=fun _ _ _=>False
structure xl(K:W.Frag)(x qual:Str)(st:Stmt)(f:Addr)(fd:FuncData):Prop where
 ex:∃(oc:Value)(od:Option Addr)(kV doc pm:Value)(an:Option Addr)(g9 ct:Value)(HG:Array (Option Value)),
  fd=W.fnOf x qual (gq st) (dW st) (aV st) .none kV doc pm an g9 ct/\K.lookup f=some ⟨oc,od,.func fd,HG⟩/\W.codeIn K g9 qual=true
 kp:W.keepIn K (.ref f)=true
theorem xl.binds(F:xl K x qual st f fd)(h:∀(kV doc pm:Value)(an:Option Addr)(g9 ct:Value)(us:List Value),us.length=ps.length->bindArgs (W.fnOf x qual (gq st) (dW st) (aV st) .none kV doc pm an g9 ct) ⟨us,[]⟩=pure (ps.zip us)):Binds K fd ps []:=by
 obtain⟨oc,od,kV,doc,pm,an,g9,ct,HG,rfl,lk,tj⟩:=F.ex;exact .all (h kV doc pm an g9 ct)
theorem Dh{kV:Value}(l:K.lookup f=some ⟨oc,od,.func (W.fnOf x qual (gq st) (dW st) (aV st) .none kV doc pm an g9 ct),HG⟩)(c:W.codeIn K g9 qual=true)(k:W.keepIn K (.ref f)=true):xl K x qual st f (W.fnOf x qual (gq st) (dW st) (aV st) .none kV doc pm an g9 ct):=⟨⟨oc,od,kV,doc,pm,an,g9,ct,HG,rfl,l,c⟩,k⟩
theorem eW.mo{k:Nat}(hr:eW k A)(h:j<=k:=by first|decide|omega):eW j A:=hr.mono h
theorem fX{k:Nat}(hr:eW k A):A.units+1<cLine:=kM (e_ (by decide:1<=64) _) hr.units
theorem dR(h:n<=1000):n<sizeLine:=kM h odz
theorem pv(i:Nat)   (hN:X.N[i]?=some x:=by rfl) (hv:O_ X.env.scope x:=by first|exact Or.inl rfl|exact Or.inr (Or.inl rfl)|exact Or.inr (Or.inr rfl)) (hd:(x==("__debug__":Str))=false:=by decide)
  (tj:(x==("__classdict__":Str))=false:=by decide):PE X (.Name x pos) (Cf i):=vQ hN hv hd tj
theorem bu{A B:Prop}(h:B):if false=true then A else B:=by
 rw[bq gc];exact h
theorem bQ{A B:Prop}(h:A):if true=true then A else B:=by
 rw[b6 rfl];exact h
theorem aQ{c A B:Prop}[Decidable c](h1:c->A)(h2:¬c->B):if c then A else B:=by
 by_cases h:c
 ·rw[b6 h]
  exact h1 h
 rw[bq h];exact h2 h
def aT(H H':Hp):Prop:=∀ b o,H b=some o->H' b=some o
theorem aT.refl(H:Hp):aT H H:=fun _ _ h=>h
theorem aT.trans(a:aT H H1)(b:aT H1 H2):aT H H2:=fun c o h=>b c o (a c o h)
theorem aT.free(e:aT H H'){l:Addr}(h:H' l=Option.none):H l=Option.none:=by
 cases q:H l with
 |none=>rfl
 | some o =>
  rw[e l o q]at h;cases h
theorem aT.seq(e:aT H H')(h:SqL K H a xs):SqL K H' a xs:=by
 rcases h with(h|⟨o,h⟩)|h
 ·exact .inl (.inl (e _ _ h))
 ·exact .inl (.inr ⟨o,e _ _ h⟩)
 exact .inr h
section
variable{κ:Type}[DecidableEq κ]
def b7(kvs:List (κ×V))(k:κ):Option V:=(kvs.find? fun kv=>decide (kv.1=k)).map (·.2)
def putK(kvs:List (κ×V))(k:κ)(v:V):List (κ×V):=
 if (kvs.any fun kv=>decide (kv.1=k))=true then kvs.map (fun kv=>if kv.1=k then(kv.1,v)else kv)else kvs++[(k,v)]
theorem dY{p:κ×V}{r:List (κ×V)}{k:κ}(e:p.1=k):b7 (p::r) k=some p.2:=by simp[b7,List.find?_cons,e]
theorem dZ{p:κ×V}{r:List (κ×V)}{k:κ}(e:¬p.1=k):b7 (p::r) k=b7 r k:=by simp[b7,List.find?_cons,e]
theorem mX(k:κ):∀ kvs:List (κ×V),(kvs.any fun kv=>decide (kv.1=k))=(b7 kvs k).isSome
 |[]=>rfl
 | p::r=>by
  rw[ja]
  by_cases e:p.1=k
  ·simp only[dY e,cS e,Bool.true_or,Option.isSome_some]
  rw[dZ e,gp e,Bool.false_or];exact mX k r
theorem ww(k j:κ)(y:V):∀ kvs:List (κ×V),b7 (kvs.map fun kv=>if kv.1=k then(kv.1,y)else kv) j=(b7 kvs j).map fun x=>if j=k then y else x
 |[]=>rfl
 | p::r=>by
  have ih:=ww k j y r;rw[b3]
  by_cases h:p.1=k
  ·rw[b6 h]
   by_cases e:p.1=j
   ·rw[dY (p:=(p.1,y)) e,dY e,nK,b6 (e.symm.trans h)]
   rw[dZ (p:=(p.1,y)) e,dZ e,ih]
  rw[bq h]
  by_cases e:p.1=j
  ·rw[dY (p:=p) e,dY e,nK,bq (fun z=>h (e.trans z))]
  rw[dZ (p:=p) e,dZ e,ih]
theorem uB(k j:κ)(y:V):∀ kvs:List (κ×V),b7 kvs k=none->b7 (kvs++[(k,y)]) j=if j=k then some y else b7 kvs j
 | [],_=>by
  by_cases e:k=j
  ·rw[b6 e.symm];exact dY (p:=(k,y)) e
  rw[bq (fun z=>e z.symm)];exact dZ (p:=(k,y)) e
 | p::r,hn=>by
  rw[gS];have hk:¬p.1=k:=fun z=>by rw[dY z]at hn;cases hn
  rw[dZ hk]at hn;have ih:=uB k j y r hn
  by_cases e:p.1=j
  ·rw[dY e,dY e,bq (fun z=>hk (e.trans z))]
  rw[dZ e,dZ e,ih]
theorem Gv(kvs:List (κ×V))(k j:κ)(y:V):b7 (putK kvs k y) j=if j=k then some y else b7 kvs j:=by
 unfold putK
 by_cases a:(kvs.any fun kv=>decide (kv.1=k))=true
 ·rw[b6 a,ww]
  rw[mX]at a
  by_cases e:j=k
  ·obtain⟨x,hx⟩:=md.mp a
   rw[b6 e,e,hx,nK,b6 rfl]
  rw[bq e];cases b7 kvs j with
  |none=>rfl
  |some x=>rw[nK,bq e]
 rw[bq a];refine uB k j y kvs ?_;rw[mX]at a;cases q:b7 kvs k with
 |none=>rfl
 |some x=>rw[q]at a;exact(a rfl).elim
theorem jw(kvs:List (κ×V))(k:κ)(v:V):(putK kvs k v).length <= kvs.length+1:=by
 unfold putK
 split
 ·rw[dS];exact oo
 rw[aS,bp,nN];exact oo
theorem kq.mi{o:Option V}{u:Option Value}(r:kq o u):o.isSome=u.isSome:=by
 cases o with
 | none=>cases u with
  |none=>rfl
  |some _=>exact(show False from r).elim
 | some _=>cases u with
  |none=>exact(show False from r).elim
  |some _=>rfl
theorem KV.val{kvs:List (κ×V)}{vs:List (κ×Value)}(r:KV kvs vs)(k:κ):kq (b7 kvs k) (valueAt vs k):=by
 unfold KV at r
 induction r with
 |nil=>exact True.intro
 | @cons p q ps qs h t ih =>
  obtain⟨h1,h2⟩:=h
  by_cases e:p.1=k
  ·have e':q.1=k:=h1.symm.trans e
   have b:valueAt (q::qs) k=some q.2:=by simp[valueAt,List.find?_cons,e']
   rw[dY e,b];exact h2
  have e':¬q.1=k:=fun z=>e (h1.trans z)
  have b:valueAt (q::qs) k=valueAt qs k:=by simp[valueAt,List.find?_cons,e']
  rw[dZ e,b];exact ih
theorem KV.any{kvs:List (κ×V)}{vs:List (κ×Value)}(r:KV kvs vs)(k:κ):(kvs.any fun kv=>decide (kv.1=k))=vs.any fun kv=>decide (kv.1=k):=by
 unfold KV at r
 induction r with
 |nil=>rfl
 |cons h t ih=>rw[ja,ja,ih,h.1]
theorem KV.G_{kvs:List (κ×V)}{vs:List (κ×Value)}(r:KV kvs vs)(k:κ)(ry:RelV y u): KV (kvs.map fun kv=>if kv.1=k then(kv.1,y)else kv) (vs.map fun kv=>if kv.1=k then(kv.1,u)else kv):=by
 unfold KV at r ⊢
 induction r with
 |nil=>exact .nil
 | @cons p q ps qs h t ih =>
  rw[b3,b3];refine .cons ?_ ih;obtain⟨h1,h2⟩:=h
  by_cases e:p.1=k
  ·rw[b6 e,b6 (h1.symm.trans e)];exact⟨h1,ry⟩
  rw[bq e,bq (fun z=>e (h1.trans z))];exact⟨h1,h2⟩
theorem KV.put{kvs:List (κ×V)}{vs:List (κ×Value)}(r:KV kvs vs)(k:κ)(ry:RelV y u):KV (putK kvs k y) (stored vs k u):=by
 unfold putK stored;rw[r.any k]
 by_cases e:(vs.any fun kv=>decide (kv.1=k))=true
 ·rw[b6 e,b6 e];exact r.G_ k ry
 rw[bq e,bq e];exact Paired.snoc r ⟨rfl,ry⟩
theorem KV.length{kvs:List (κ×V)}{vs:List (κ×Value)}(r:KV kvs vs):kvs.length=vs.length:=bg r
end
theorem mY{k:Key}(r:RelV (kV k) u):(bL P w).is k u=true:=by
 cases k with
 |inl i=>obtain⟨t,e⟩:=(show ∃ t,u=Value.int i t from r);subst e;exact qi P w i t
 |inr x=>obtain⟨t,e⟩:=(show ∃ t,u=Value.str x t from r);subst e;exact qj P w x t
theorem uC{P:Program}{w:World}:∀{ks:List Key}{us:List Value},Vals (ks.map kV) us->ItemsAre (bL P w) ks us
 |[],_,r=>by rw[ui]at r;cases r;exact .nil
 | k::ks,_,r=>by
  rw[b3]at r;cases r with
  |cons h t=>exact .cons (mY h) (uC t)
abbrev KT(H:Hp):List (List Key×V)->List (List Key×Addr×Value)->Prop:=Paired fun p q=>p.1=q.1/\H q.2.1=some (.tup (p.1.map kV))/\RelV p.2 q.2.2
theorem KT.val{kvs:List (List Key×V)}{xs:List (List Key×Addr×Value)}(r:KT H kvs xs)(k:List Key):kq (b7 kvs k) ((atKey xs k).map (·.2)):=by
 induction r with
 |nil=>exact True.intro
 | @cons p q ps qs h t ih =>
  obtain⟨h1,_,h2⟩:=h
  by_cases e:p.1=k
  ·have e':q.1=k:=h1.symm.trans e
   have b:atKey (q::qs) k=some q.2:=by simp[atKey,List.find?_cons,e']
   rw[dY e,b];exact h2
  have e':¬q.1=k:=fun z=>e (h1.trans z)
  have b:atKey (q::qs) k=atKey qs k:=by simp[atKey,List.find?_cons,e']
  rw[dZ e,b];exact ih
theorem KT.G_{kvs:List (List Key×V)}{xs:List (List Key×Addr×Value)}(r:KT H kvs xs)(k:List Key)(ry:RelV y u): KT H (kvs.map fun kv=>if kv.1=k then(kv.1,y)else kv) (xs.map (putAt k u)):=by
 induction r with
 |nil=>exact .nil
 | @cons p q ps qs h t ih =>
  rw[b3,b3];refine .cons ?_ ih;obtain⟨h1,h2,h3⟩:=h;unfold putAt
  by_cases e:p.1=k
  ·rw[b6 e,b6 (h1.symm.trans e)];exact⟨h1,h2,ry⟩
  rw[bq e,bq (fun z=>e (h1.trans z))];exact⟨h1,h2,h3⟩
theorem KT.put{kvs:List (List Key×V)}{xs:List (List Key×Addr×Value)}(r:KT H kvs xs)(k:List Key)(hb:H b=some (.tup (k.map kV)))(ry:RelV y u): KT H (putK kvs k y) (storedH xs k b u):=by
 have e:(kvs.any fun kv=>decide (kv.1=k))=(atKey xs k).isSome:=by
  rw[mX,(r.val k).mi,Option.isSome_map]
 unfold putK storedH;rw[e]
 by_cases q:(atKey xs k).isSome=true
 ·rw[b6 q,b6 q];exact r.G_ k ry
 rw[bq q,bq q];exact Paired.snoc r ⟨rfl,hb,ry⟩
theorem KT.keeps{kvs:List (List Key×V)}{xs:List (List Key×Addr×Value)}(r:KT H kvs xs)(ht:∀ b ys,H b=some (.tup ys)->H' b=some (.tup ys)):KT H' kvs xs :=
 Paired.gV r fun _ _ z=>⟨z.1,ht _ _ z.2.1,z.2.2⟩
theorem Jo{u:HO}(ok:kK P w H h)(e:Rd H a u):eM P w H h a u:=e.ok ok
theorem Az(ok:kK P w H h)(e:Rd H a (.dK kvs)):kvs.length<=sizeLine/\(a==sysModules)=false/\∃ vs,KV kvs vs/\h.DictOf (bL P w) a vs :=
 show eM P w H h a (.dK kvs)from Jo ok e
theorem Jp(ok:kK P w H h)(e:H a=some (.dK kvs)):kvs.length<=sizeLine/\(a==sysModules)=false/\∃ vs,KV kvs vs/\h.DictOf (bL P w) a vs:=Az ok (.inl e)
theorem wy{ks:List Key}(ok:kK P w H h)(e:H a=some (.tup (ks.map kV))):(tupleKind (bL P w)).is h ks a:=by
 obtain⟨_,its,r,o,h1,h2,n,h3⟩:=(show eM P w H h a (.tup (ks.map kV))from ok a _ e)
 exact⟨o,its.toArray,n,h1,h2,bP Prod.fst h3,by simpa using uC r⟩
theorem Ba{kvs:List (List Key×V)}(ok:kK P w H h)(e:Rd H a (.dT kvs)):kvs.length<=sizeLine/\(a==sysModules)=false /\ ∃ xs,KT H kvs xs/\h.DictOfH (tupleKind (bL P w)) a xs:=by
 obtain⟨z,y,xs,r,o,es,ep,h1,h2,h3,h4,h5⟩:=(show eM P w H h a (.dT kvs)from Jo ok e)
 refine⟨z,y,xs,r,o,es,ep,h1,h2,h3,h4,fun x hx=>?_,h5⟩
 have all:∀{l:List (List Key×V)}{m:List (List Key×Addr×Value)},KT H l m->∀ x∈m,(tupleKind (bL P w)).is h x.1 x.2.1:=by
  intro l m q
  induction q with
  |nil=>intro x hx;exact nomatch hx
  | @cons p q ps qs hq t ih =>
   intro x hx;rcases av.mp hx with e|hx
   ·subst e
    exact wy ok (by rw[<- hq.1];exact hq.2.1)
   exact ih x hx
 exact all r x hx
theorem Oq{kvs:List (List Key×V)}(ok:kK P w H h)(e:H a=some (.dT kvs)):kvs.length<=sizeLine/\(a==sysModules)=false /\ ∃ xs,KT H kvs xs/\h.DictOfH (tupleKind (bL P w)) a xs:=Ba ok (.inl e)
def tP(H:Hp)(a:Addr)(y:V)(r:Option V):Prop :=
 (∃ kvs k,Rd H a (.dK kvs)/\y=kV k/\r=b7 kvs k)\/∃ kvs k b,Rd H a (.dT kvs)/\y=.ref b/\H b=some (.tup (k.map kV))/\r=b7 kvs k
def tN(H:Hp)(a:Addr)(y v:V)(H':Hp):Prop :=
 (∃ kvs k,H a=some (.dK kvs)/\y=kV k/\kvs.length<sizeLine/\H'=upd H a (.dK (putK kvs k v))) \/
 ∃ kvs k b,H a=some (.dT kvs)/\y=.ref b/\H b=some (.tup (k.map kV))/\kvs.length<sizeLine/\H'=upd H a (.dT (putK kvs k v))
theorem tP.k{H:Hp}{a:Addr}{kvs:List (Key×V)}{k:Key}(e:H a=some (.dK kvs)):tP H a (kV k) (b7 kvs k):=.inl ⟨kvs,k,.inl e,rfl,rfl⟩
theorem tN.k{H:Hp}{a:Addr}{kvs:List (Key×V)}{k:Key}{v:V}(e:H a=some (.dK kvs))(hl:kvs.length<sizeLine):tN H a (kV k) v (upd H a (.dK (putK kvs k v))):=.inl ⟨kvs,k,e,rfl,hl,rfl⟩
section
variable{r:Value}{o:Option V}
theorem Inv.big(I:Inv X pins σ H s):sysModules<s.heap.objs.size:=by
 have h:mainGlobals<s.heap.objs.size:=(I.mod.glob.keeps I.bk).lt;exact Nat.lt_trans odz h
theorem Di(hu:A.units+1<cLine)(I:Inv X pins σ H s)(g:tP H a y (some v))(ry:RelV y u)(h:∀ w' s',Inv X pins σ H s'->RelV v w'->Q w' s'): wpAny (model X.prog X.w) A (getItem (.ref a) u) Q E s:=by
 rcases g with⟨kvs,k,e,ey,l⟩|⟨kvs,k,b,e,ey,eb,l⟩
 ·subst ey
  obtain⟨z,hd,vs,rel,dd⟩:=Az I.hok e;obtain⟨w',hw,qc⟩:=kq.some_of (v:=v) (o:=valueAt vs k) (by rw[l];exact rel.val k);exact wpAny_getItem_of (mY ry) dd.mapOf hw (h w' _ (I.tok _) qc)
 subst ey;cases(show u=Value.ref b from ry);obtain⟨z,hd,xs,rel,dd⟩:=Ba I.hok e;obtain⟨w',hw,qc⟩:=kq.some_of (v:=v) (o:=(atKey xs k).map (·.2)) (by rw[l];exact rel.val k);obtain⟨p,hp,KS⟩:=Option.map_eq_some_iff.mp hw;refine wpAny_getItem_heap (tupleKind_room_in1 hu) (wy I.hok eb) dd hp ?_;rw[KS];exact h w' _ (I.tok _) qc
theorem tK{ob:HO}(I:Inv X pins σ H s)(mu:Pm (H a))(hs:Heap.SameBut a s.heap h')(he:∃ q,h'.get? a=some q)(new:eM X.prog X.w (upd H a ob) h' a ob): Inv X pins σ (upd H a ob) { s with heap:=h',toks:=t' } :=
 I.write (x:=a) (e:=a) mu (.inl rfl) (fun b q hb z=>(hs.2 b hb).trans z) he new
theorem Dj{vs:List (Key×Value)}(z:kvs.length<=sizeLine)(hd:(a==sysModules)=false)(rel:KV kvs vs)(dd:h'.DictOf (bL P w) a vs): eM P w H' h' a (.dK kvs):=⟨z,hd,vs,rel,dd⟩
theorem Dk{Q:Unit->Shared->Prop}(hu:A.units+1<cLine)(I:Inv X pins σ H s)(g:tN H a y v H')(ry:RelV y u)(rv:RelV v r)(h:∀ s',Inv X pins σ H' s'->Q () s'): wpAny (model X.prog X.w) A (setItem (.ref a) u r) Q E s:=by
 rcases g with⟨kvs,k,e,ey,l,eH⟩|⟨kvs,k,b,e,ey,eb,l,eH⟩
 ·subst ey eH
  obtain⟨z,hd,vs,rel,dd⟩:=Jp I.hok e;have hz:vs.length<=sizeLine:=by rw[<- rel.length];exact z
  have hl:(putK kvs k v).length <= sizeLine:=by have:=jw kvs k v;exact oo
  refine wpAny_setItem_pairs (hsz:=hz) (mY ry) dd fun h' dd' hs=>h _ ?_
  have he:∃ q,h'.get? a=some q:=let ⟨q,_,_,hq,_⟩:=dd';⟨q,hq⟩;exact tK I (by rw[e];exact True.intro) hs he (Dj hl hd (rel.put k rv) dd')
 subst ey eH;cases(show u=Value.ref b from ry);obtain⟨z,hd,xs,rel,dd⟩:=Oq I.hok e;have hz:xs.length<=sizeLine:=by rw[<- bg rel];exact z
 have hl:(putK kvs k v).length <= sizeLine:=by have:=jw kvs k v;exact oo
 refine wpAny_setItem_heap (hsz:=hz) (tupleKind_room_in1 hu) (wy I.hok eb) dd fun h' dd' hs=>h _ ?_
 obtain⟨q,es,ep,hq,h2,h3,h4,_,h5⟩:=dd';refine tK I (by rw[e];exact True.intro) hs ⟨q,hq⟩ ⟨hl,hd,_,(rel.put k eb rv).keeps fun c ys ec=>?_,q,es,ep,hq,h2,h3,h4,h5⟩;rw[aG (bF ec e (fun z=>nomatch z))];exact ec
end
def Gw(i:Expr):Prop:=∀ ov iv,subscripted i false ov iv=operate [ov,iv] (getItem ov iv)
theorem yH{slice:Expr}{T id:String}(hl:typeLookup (.type T) "__getitem__"=pure (some (.builtin id)))(hs:Gw slice)(h:wpAny (model prog w) A (eval value env) (fun o s₁=>wpAny (model prog w) A (eval slice env) (fun i s₂=>s₂.TypeIs o T/\wpAny (model prog w) A (getItem o i) Q E s₂) E s₁) E s): wpAny (model prog w) A (eval (.Subscript value slice pos) env) Q E s:=by
 refine Subscript_ (df h (fun o s₁ h₁=>df h₁ (fun i s₂ h₂=>?_) fun _ _ x=>x) fun _ _ x=>x);obtain⟨hT,h₂⟩:=h₂;unfold subscriptTail;refine ae ?_;rw[getitemInPython_of_ne hT.not_modules];refine ae (wpAny_specialOf hT hl ?_)
 have fin:wpAny (model prog w) A (subscripted slice false o i) (fun r s₃=>wpAny (model prog w) A (letTemporaryGo value o r>>=fun _=>pure r) Q E s₃) E s₂:=by
  rw[hs o i];exact wpAny_operating (df h₂ (fun r s₃ h₃=>ae (wpAny_letTemporaryGo (aI h₃))) fun _ _ x=>x)
 first
  |exact aI (ae fin)
  |exact ae (aI (ae fin))
  |exact ae fin
theorem yd{o:Option V}(I:Inv X pins σ H s)(g:tP H a y o):s.TypeIs (.ref a) "dict":=by
 rcases g with⟨kvs,k,e,_,_⟩|⟨kvs,k,b,e,_,_,_⟩
 ·obtain⟨_,_,vs,_,dd⟩:=Az I.hok e
  exact dd.typeIs
 obtain⟨_,_,xs,_,dd⟩:=Ba I.hok e;exact dd.typeIs
def Ot(td ty:TE):TE:=fun σ H Q=>td σ H fun x H1=>ty σ H1 fun y H2=>∃ a v,x=.ref a/\tP H2 a y (some v)/\Q v H2
def Ou(td ty tv:TE):TS:=fun D σ H=>tv σ H fun v H1=>td σ H1 fun x H2=>ty σ H2 fun y H3=>∃ a H4,x=.ref a/\tN H3 a y v H4/\D.nx σ H4
section
variable{o i:Expr}
theorem yI(hu:X.A.units+1<cLine)(ho:PE X o td)(hi:PE X i ty)(hs:Gw i):PE X (.Subscript o i pos) (Ot td ty):=by
 intro pins s σ H Q I h;refine yH PySem.F.slot_dict_getitem.lookup hs (thn (ho pins s σ H _ I h) fun u s1 ⟨x,H1,I1,rx,q1⟩=>thn (hi pins s1 σ H1 _ I1 q1) fun iv s2 ⟨y,H2,I2,ry,a,v,ex,g,q2⟩=>?_);subst ex;obtain rfl:u=Value.ref a:=rx;exact⟨yd I2 g,Di hu I2 g ry fun w' s3 I3 qc=>⟨v,H2,I3,qc,q2⟩⟩
theorem tL(hu:X.A.units+1<cLine)(ho:PE X o td)(hi:PE X i ty)(hv:PE X value tv)(hs:swapsWith value (some (.Subscript o i pos')) pos.line X.env=pure false): PS X (.Assign [.Subscript o i pos'] value pos) (Ou td ty tv):=by
 intro pins s σ H D I h;refine wpAny_Assign_Subscript (thn (hv pins s σ H _ I h) fun r s1 ⟨v,H1,I1,rv,q1⟩=>thn (ho pins s1 σ H1 _ I1 q1) fun u s2 ⟨x,H2,I2,rx,q2⟩=>thn (hi pins s2 σ H2 _ I2 q2) fun iv s3 ⟨y,H3,I3,ry,a,H4,ex,g,q3⟩=>?_) hs;subst ex;obtain rfl:u=Value.ref a:=rx;exact Dk hu I3 g ry rv fun s4 I4=>⟨σ,H4,I4,q3⟩
end
theorem wz(h:Heap)(hb:sysModules<h.objs.size):eM P w H (h.push { cls:=.type "dict",data:=.dict #[] }) h.objs.size (.dK []):=
 ⟨mf _,gX.mpr (ba (b4 hb)),[],.nil,Heap.DictOf.new h⟩
def Ml:TE:=fun _ H Q=>∀ p,H p=none->Q (.ref p) (upd H p (.dK []))
theorem qJ:PE X (.Dict [] [] pos) Ml:=fun pins s σ H Q I h =>
 wpAny_Dict_empty ⟨.ref s.heap.objs.size,_,I.laid (a:=s.heap.objs.size) (o:=.dK []) (t':=s.toks) (fun _ _ q=>Heap.get?_push_of_some _ q) (qnr _) (wz s.heap I.big),rfl,h _ (I.hok.fresh (qnr _))⟩
def wA:List (TE×TE)->St->Hp->(List (V×V)->Hp->Prop)->Prop
 |[],_,H,Q=>Q [] H
 |(tk,tv):: r,σ,H,Q=>tk σ H fun x H1=>tv σ H1 fun y H2=>wA r σ H2 fun ps H3=>Q ((x,y):: ps) H3
abbrev VV:List (V×V)->List (Value×Value)->Prop:=Paired fun p q=>RelV p.1 q.1/\RelV p.2 q.2
def Q5(X:Cx)(pos:Pos)(keys:List (Option Expr))(values:List Expr)(EV:List (TE×TE)):Prop :=
 ∀(pins:List (Addr×Obj))(s:Shared)(σ:St)(H:Hp)(Q:List (V×V)->Hp->Prop),Inv X pins σ H s->wA EV σ H Q ->
  wpAny (model X.prog X.w) X.A (evalPairs (pairTrees keys values X.env pos)) (fun vs s'=>∃ ps H',Inv X pins σ H' s'/\VV ps vs/\Q ps H') X.xe s
theorem J7:Q5 X pos [] [] []:=fun pins s σ H Q I h=>pairTrees_nil_walk ⟨[],H,I,.nil,h⟩
theorem mZ{k v:Expr}{ks:List (Option Expr)}{vs:List Expr}{tk:TE}(hk:PE X k tk)(hv:PE X v tv)(hr:Q5 X pos ks vs EV): Q5 X pos (some k::ks) (v::vs) ((tk,tv):: EV):=fun pins s σ H Q I h =>
 pairTrees_cons_walk (thn (hk pins s σ H _ I h) fun u s1 ⟨x,H1,I1,rx,q1⟩=>thn (hv pins s1 σ H1 _ I1 q1) fun w2 s2 ⟨y,H2,I2,ry,q2⟩ =>
  thn (hr pins s2 σ H2 _ I2 q2) fun ws s3 ⟨ps,H3,I3,rel,q3⟩=>⟨(x,y):: ps,H3,I3,.cons ⟨rx,ry⟩ rel,q3⟩)
def kj(kvs more:List (Key×V)):List (Key×V):=more.foldl (fun acc kv=>putK acc kv.1 kv.2) kvs
theorem KV.merge:∀{more:List (Key×V)}{rs:List (Key×Value)}{kvs:List (Key×V)}{vs:List (Key×Value)},KV more rs->KV kvs vs->KV (kj kvs more) (merged vs rs):=by
 intro more rs kvs vs r;unfold KV at r
 induction r generalizing kvs vs with
 |nil=>intro q;exact q
 | @cons p q ps qs h t ih =>
  intro r0
  have e:KV (putK kvs p.1 p.2) (stored vs q.1 q.2):=by
   have:=r0.put p.1 h.2;rw[<- h.1];exact this
  exact ih e
theorem nU:∀(more kvs:List (Key×V)),(kj kvs more).length <= kvs.length+more.length
 |[],kvs=>by show kvs.length<=kvs.length+0;exact oo
 | p::r,kvs=>by
  have h1:=nU r (putK kvs p.1 p.2);have h2:=jw kvs p.1 p.2;show(kj (putK kvs p.1 p.2) r).length <= _;rw[bp];exact oo
theorem rO{P:Program}{w:World}:∀{kvs:List (Key×V)}{ws:List (Value×Value)},VV (kvs.map fun kv=>(kV kv.1,kv.2)) ws->∃ rs,Carries (bL P w) ws rs/\KV kvs rs
 |[],_,r=>by rw[ui]at r;cases r;exact⟨[],True.intro,.nil⟩
 | p::kvs,_,r=>by
  rw[b3]at r;cases r with
  | @cons a b as bs h t =>
   obtain⟨rs,c,q⟩:=rO (P:=P) (w:=w) t;obtain⟨b1,b2⟩:=b;exact⟨(p.1,b2):: rs,⟨mY h.1,Z,c⟩,.cons ⟨Z,h.2⟩ q⟩
def Ov(EV:List (TE×TE)):TE:=fun σ H Q=>∀ p,H p=none->wA EV σ (upd H p (.dK [])) fun ps H2=>H2 p=some (.dK [])/\∃ kvs:List (Key×V),ps=kvs.map (fun kv=>(kV kv.1,kv.2))/\kvs.length<=15/\Q (.ref p) (upd H2 p (.dK (kj [] kvs)))
theorem J8{keys:List (Option Expr)}{values:List Expr}(h:Q5 X pos keys values EV)(hall:keys.all (·.isSome)=true)(hl:keys.length=values.length)(h0:keys≠[])(h15:keys.length<=15):PE X (.Dict keys values pos) (Ov EV):=by
 intro pins s σ H Q I q;have hn:=I.hok.fresh (qnr s.heap.objs.size);have I1:=I.laid (a:=s.heap.objs.size) (o:=.dK []) (h':=s.heap.push { cls:=.type "dict",data:=.dict #[] }) (t':=s.toks) (fun _ _ q=>Heap.get?_push_of_some _ q) (qnr _) (wz s.heap I.big);refine wpAny_Dict_walk (knd:=bL X.prog X.w) hall hl h0 h15 (thn (h pins _ σ _ _ I1 (q _ hn)) fun ws s2 ⟨ps,H2,I2,rel,e,kvs,ep,lk,q2⟩=>?_);subst ep;obtain⟨rs,c,rk⟩:=rO (P:=X.prog) (w:=X.w) rel;obtain⟨z,hd,vs0,r0,dd⟩:=Jp I2.hok e;cases r0;refine⟨rs,c,dd,fun h' dd' hs=>⟨.ref s.heap.objs.size,_,?_,Z,q2⟩⟩
 have hz:(kj [] kvs).length <= sizeLine:=by
  have h1:=nU kvs [];rw[nN]at h1;rw[sizeLine_eq];exact oo
 have he:∃ q,h'.get? s.heap.objs.size=some q:=let ⟨q,_,_,hq,_⟩:=dd';⟨q,hq⟩;exact tK I2 (by rw[e];exact True.intro) hs he (Dj hz hd (rk.merge .nil) dd')
section
variable{κ:Type}[DecidableEq κ]
theorem yJ:∀{l:List κ}{k:κ},l.Nodup->¬k∈l->(l++[k]).Nodup
 |[],k,_,_=>by simp
 | a::r,k,h,hk=>by
  obtain⟨h1,h2⟩:=eR.mp h;show(a::(r++[k])).Nodup;refine eR.mpr ⟨fun m=>?_,yJ h2 fun m=>hk (av.mpr (Or.inr m))⟩;rcases aw.mp m with q|q
  ·exact h1 q
  exact hk (av.mpr (Or.inl (ar.mp q).symm))
end
theorem qK{α β:Type}{l:List α}{f:α->β->Sem (ForInStep β)}(g:α->β->β)(c:β)(h:∀ x∈l,∀ c,f x c=pure (.yield (g x c))): forIn l c f=(pure (l.foldl (fun c x=>g x c) c):Sem β):=by
 induction l generalizing c with
 |nil=>rfl
 | cons x l ih =>
  rw[List.forIn_cons,h x qms,pure_bind];exact ih (g x c) fun y hy=>h y (k8 _ hy)
def eE(env:Env)(names:List (Str×NameKind)):List (Str×Addr):=
 names.foldl (fun c x=>if x.2 == .free then(x.1,(env.cells.lookup x.1).getD 0):: c else c) []
theorem vh(h:∀ y∈scope.names,y.2=.free -> ∃ c,env.cells.lookup y.1=some c):closureFor scope env=pure (eE env scope.names):=by
 unfold eE;simp only[closureFor]
 rw [qK (fun x c=>if x.2 == .free then(x.1,(env.cells.lookup x.1).getD 0):: c else c) [] (fun x hx c=>by
  obtain⟨n,kind⟩:=x
  by_cases e:kind=NameKind.free
  ·subst e
   obtain⟨a,ha⟩:=h _ hx rfl;have QL:env.cells.lookup n=some a:=ha;simp only[mP,i_,cellOf,QL,Option.getD_some,pure_bind]
  have e':(kind==NameKind.free)=false:=by simpa using e
  simp only[e',sk,mM])]
 rfl
theorem k_{env:Env}:∀{names:List (Str×NameKind)}{acc:List (Str×Addr)}{p:Str×Addr}, p∈names.foldl (fun c x=>if x.2 == .free then(x.1,(env.cells.lookup x.1).getD 0):: c else c) acc↔p∈acc\/∃ y∈names,y.2=.free /\ p=(y.1,(env.cells.lookup y.1).getD 0)
 |[],acc,p=>by simp
 | x::r,acc,p=>by
  rw[eS,k_]
  by_cases e:x.2=NameKind.free
  ·rw [b6 (by simpa using e)]
   constructor
   ·rintro(h|⟨y,hy,h1,h2⟩)
    ·rcases av.mp h with h|h
     ·exact .inr ⟨x,qms,e,h⟩
     exact .inl h
    exact .inr ⟨y,k8 _ hy,h1,h2⟩
   rintro(h|⟨y,hy,h1,h2⟩)
   ·exact .inl (k8 _ h)
   rcases av.mp hy with rfl|hy
   ·exact .inl (h2 ▸ qms)
   exact .inr ⟨y,hy,h1,h2⟩
  rw[bq (by simpa using e)]
  constructor
  ·rintro(h|⟨y,hy,h1,h2⟩)
   ·exact .inl h
   exact .inr ⟨y,k8 _ hy,h1,h2⟩
  rintro(h|⟨y,hy,h1,h2⟩)
  ·exact .inl h
  rcases av.mp hy with rfl|hy
  ·exact absurd h1 e
  exact .inr ⟨y,hy,h1,h2⟩
theorem mem_of_lookup{β:Type}:∀{l:List (Str×β)}{x:Str}{c:β},l.lookup x=some c->(x,c)∈l
 |[],_,_,h=>by simp at h
 | (n,d):: r,x,c,h=>by
  rw[ez]at h;cases e:x==n with
  | true =>
   rw[e]at h;have e':x=n:=by simpa using e
   subst e';cases h;exact qms
  | false =>
   rw[e]at h;exact k8 _ (mem_of_lookup h)
theorem nW{β:Type}:∀{l:List (Str×β)}{x:Str}{c:β},(x,c)∈l->∃ d,l.lookup x=some d
 |[],_,_,h=>nomatch h
 | (n, d):: r,x,c,h=>by
  rw[ez];cases e:x==n with
  |true=>exact⟨d,Z⟩
  | false =>
   rcases av.mp h with h|h
   ·injection h with h1 _
    subst h1;simp at e
   exact nW h
theorem fY{names:List (Str×NameKind)}(h:∀ y∈names,y.2=.free -> ∃ c,env.cells.lookup y.1=some c){c:Addr}(e:(eE env names).lookup x=some c):env.cells.lookup x=some c:=by
 rcases k_.mp (mem_of_lookup e)with z|⟨y,hy,h1,h2⟩
 ·cases z
 obtain⟨d,hd⟩:=h y hy h1
 injection h2 with e1 e2
 subst e1;rw[hd]at e2;rw[hd,e2]
 rfl
theorem rP{names:List (Str×NameKind)}(h:(x,NameKind.free)∈names):∃ c,(eE env names).lookup x=some c :=
 nW (k_.mpr (.inr ⟨_,h,rfl,rfl⟩))
theorem mG{env:Env}:∀{names:List (Str×NameKind)}{x:Str}{k:NameKind}, (names.map fun(n,k)=>if (k==NameKind.free&&env.scope.kind == .function&&env.kindOf n==some .cell)then(n,NameKind.cell)else(n,k)).lookup x=some k -> ∃ k0,names.lookup x=some k0/\(k=k0\/(k0=.free /\ k=.cell))
 |[],_,_,h=>by simp at h
 | (n, k):: r,x,k',h=>by
  have ih:=@mG env r x k';rw[b3]at h
  by_cases hc:(k==NameKind.free&&env.scope.kind == .function&&env.kindOf n==some .cell)=true
  ·dsimp only at h
   rw[b6 hc,ez]at h;rw[ez];cases e:x==n with
   | true =>
    rw[e]at h;cases h;refine⟨k,Z,.inr ⟨?_,Z⟩⟩;simp only[dE,i']at hc;exact hc.1.1
   | false =>
    rw[e]at h;exact ih h
  dsimp only at h;rw[bq hc,ez]at h;rw[ez];cases e:x==n with
  | true =>
   rw[e]at h;cases h;exact⟨k,Z,.inl rfl⟩
  | false =>
   rw[e]at h;exact ih h
theorem oJ{env:Env}:∀{names:List (Str×NameKind)}{x:Str},names.lookup x=some .free -> (names.map fun(n,k)=>if (k==NameKind.free&&env.scope.kind == .function&&env.kindOf n==some .cell)then(n,NameKind.cell)else(n,k)).lookup x=some .cell \/ (names.map fun(n,k)=>if (k==NameKind.free&&env.scope.kind == .function&&env.kindOf n==some .cell)then(n,NameKind.cell)else(n,k)).lookup x=some .free
 |[],_,h=>by simp at h
 | (n, k):: r,x,h=>by
  have ih:=@oJ env r x;rw[b3];rw[ez]at h
  by_cases hc:(k==NameKind.free&&env.scope.kind == .function&&env.kindOf n==some .cell)=true
  ·dsimp only
   rw[b6 hc,ez];cases e:x==n with
   |true=>exact .inl rfl
   | false =>
    rw[e]at h;exact ih h
  dsimp only;rw[bq hc,ez];cases e:x==n with
  | true =>
   rw[e]at h;cases h;exact .inr rfl
  | false =>
   rw[e]at h;exact ih h
theorem Dl{target:Expr}{it acc:Value}(I:Nat->Shared->Prop)
  (turn : ∀ n s,I n s->wpAny (model prog w) A (pyNext it) (fun r s₁=>match r with
   |none=>R (.ok .next) s₁
   | some v=>wpAny (model prog w) A (letOwnedTupleGo target it v) (fun _ UQ=>wpAny (model prog w) A (assign target env v) (fun _ s₂ =>
     wpAny (model prog w) A (forIn ifs true fun c r=>if r=true then do let ok <- isTrue c env (eval c env);pure (ForInStep.yield ok)else pure (ForInStep.yield r)) (fun ok s₃ =>
      if ok=true then wpAny (model prog w) A (eval elt env) (fun x s₄ =>
       wpAny (model prog w) A (call (.builtin "list.append") [acc,x]) (fun _ s₅=>∃ m,m<n/\I m s₅) (fun _ _=>False) s₄) (fun _ _=>False) s₃
      else ∃ m,m<n/\I m s₃) (fun _ _=>False) s₂) (fun _ _=>False) UQ) (fun _ _=>False) s₁) (fun _ _=>False) s)
  (n:Nat) (h:I n s):
  codeAny (model prog w) A (.compLoop (.ListComp elt [⟨target,iter,ifs,0⟩] scope pos) 0 it acc env) R s:=by
 refine codeAny_loop rfl I (fun n s hI=>?_) n h;show wpAny _ A ((compTurn (.ListComp elt [⟨target,iter,ifs,0⟩] scope pos) 0 it acc env).onRaise (fun x=>do noteFrame x env;theTreesLotGoes x)) _ _ s;refine wpAny_noted ?_;rw[compTurn_list];refine ae (wpAny_standAt (ae (df (turn n s hI) (fun r s₁ h₁=>?_) fun _ _ h'=>h'.elim)));cases r with
 |none=>exact aI h₁
 | some v =>
  refine ae (df h₁ (fun _ UQ _2=>?_) fun _ _ h'=>h'.elim);refine ae (df _2 (fun _ s₂ h₂=>ae (df h₂ (fun ok s₃ h₃=>?_) fun _ _ h'=>h'.elim)) fun _ _ h'=>h'.elim);cases ok with
  |false=>exact aI ⟨rfl,h₃⟩
  | true =>
   exact ae (ae (df h₃ (fun x s₄ h₄=>ae (df h₄ (fun _ s₅ h₅=>aI (aI ⟨rfl,h₅⟩)) fun _ _ h'=>h'.elim)) fun _ _ h'=>h'.elim))
def Cx.pb(X:Cx)(pins:List (Addr×Obj))(scope:Scope)(cl:List (Str×Addr))(C:Addr)(N':List Str)(fp:List Addr)(s:Shared)(H:Hp):Cx :=
 { X with N:=N',s₀:=s,H₀:=H,env:=compEnvC scope cl C X.env,outer:=X.stack,ex:=fp,fn:=fun _=>false,pn:=X.pn++pins,xe:=fun _ _=>False }
def cR(ix:List (Option Nat))(σ:St):St:=ix.map fun o=>o.bind fun i=>(σ[i]?).join
def Ext:St->St->Prop
 |[],[]=>True
 |none::a,_::b=>Ext a b
 |some v::a,o::b=>o=some v/\Ext a b
 |_,_=>False
theorem Ext.get:∀{a b:St},Ext a b->∀(j:Nat)(v:V),a[j]?=some (some v)->b[j]?=some (some v)
 |[],[],_,j,v,h=>by simp at h
 |none::a,_::b,e,0,v,h=>by simp at h
 | none::a,_::b,e,j+1,v,h=>by
  have e:Ext a b:=e;rw[List.getElem?_cons_succ]at h ⊢;exact e.get j v h
 | some u::a,o::b,e,0,v,h=>by
  have e1:o=some u:=e.1;rw[List.getElem?_cons_zero]at h ⊢;rw[e1];exact h
 | some u::a,o::b,e,j+1,v,h=>by
  have e:Ext a b:=e.2;rw[List.getElem?_cons_succ]at h ⊢;exact e.get j v h
 |[],_::_,e,_,_,_=>e.elim
 |none::_,[],e,_,_,_=>e.elim
 |some _::_,[],e,_,_,_=>e.elim
theorem Ext.length:∀{a b:St},Ext a b->a.length=b.length
 |[],[],_=>rfl
 | none::a,_::b,e=>by
  have e:Ext a b:=e;simp[e.length]
 | some u::a,o::b,e=>by
  have e:Ext a b:=e.2;simp[e.length]
 |[],_::_,e=>e.elim
 |none::_,[],e=>e.elim
 |some _::_,[],e=>e.elim
def vG(sc:Scope)(N:List Str)(scope:Scope)(N':List Str)(ix:List (Option Nat)):Bool :=
 decide (scope.kind=.function)&&decide (∀ y∈scope.names,y.2≠.cell)&&decide (∀ y∈scope.names,y.2=.local -> scope.names.lookup y.1=some .local) &&
 decide (∀ y∈scope.names,y.2=.free -> sc.names.lookup y.1=some .cell \/ sc.names.lookup y.1=some .free)&&decide (ix.length=N'.length) &&
 ((N'.zip ix).all fun p=>p.2.all fun i=>decide (N[i]?=some p.1)&&decide (scope.names.lookup p.1=some .free))
structure ng(sc:Scope)(N:List Str)(scope:Scope)(N':List Str)(ix:List (Option Nat)):Prop where
 kind:scope.kind=.function
 Au:∀ y∈scope.names,y.2≠.cell
 names:∀ y∈scope.names,y.2=.local -> scope.names.lookup y.1=some .local
 free:∀ y∈scope.names,y.2=.free -> sc.names.lookup y.1=some .cell \/ sc.names.lookup y.1=some .free
 len:ix.length=N'.length
 at_:∀(j:Nat)(x:Str)(i:Nat),N'[j]?=some x->ix[j]?=some (some i)->N[i]?=some x/\scope.names.lookup x=some .free
theorem ng.of(h:vG sc N scope N' ix=true):ng sc N scope N' ix:=by
 unfold vG at h;simp only[dE,decide_eq_true_eq]at h;obtain⟨⟨⟨⟨⟨h1,h2⟩,h3⟩,h4⟩,h5⟩,h6⟩:=h;refine⟨h1,h2,h3,h4,h5,fun j x i e1 e2=>?_⟩
 have hz:(N'.zip ix)[j]?=some (x,some i):=by
  rw[List.getElem?_zip_eq_some];exact⟨e1,e2⟩
 have hm:(x,some i)∈N'.zip ix:=qh hz;have q:=cm.mp h6 _ hm;simp only[Option.all_some,dE,decide_eq_true_eq]at q;exact q
abbrev aL(its:List Value):Obj:={ cls:=.type "list",data:=.seq its.toArray its.length }
theorem iH(ok:X.Ok)(vn:X.env.scope=sc)(B:ng sc N scope N' ix):∀ y∈scope.names,y.2=.free -> ∃ c,X.env.cells.lookup y.1=some c:=fun y hy e=>by
 have q:=B.free y hy e;rw[<- vn]at q;exact ok.has y.1 q
theorem Mm(I:Inv X pins σ H s)(vn:X.env.scope=sc)(B:ng sc N scope N' ix)(hf:∀ b∈fp,jf X pins H b)(fE:∀ b∈fp,b<s.heap.objs.size)(hC:s.heap.objs.size<=C): (X.pb pins scope (eE X.env scope.names) C N' fp s H).Ok where
 mod:=I.ok.mod
 kind:=B.kind
 glob:=I.ok.glob
 blt:=I.ok.blt
 above:=hC
 inj:=fun x y c a b=>I.ok.inj x y c (fY (iH I.ok vn B) a) (fY (iH I.ok vn B) b)
 has := fun x h=>by
  have z:∃ k,(relabel scope X.env).names.lookup x=some k/\(k=.cell \/ k=.free):=by
   rcases h with h|h
   ·exact⟨_,h,.inl rfl⟩
   exact⟨_,h,.inr rfl⟩
  obtain⟨k,hk,s_⟩:=z;obtain⟨k0,h0,h1⟩:=mG (env:=X.env) (names:=scope.names) hk;have hm:=mem_of_lookup h0
  have e:k0=.free:=by
   rcases h1 with h1|h1
   ·subst h1
    rcases s_ with e|e
    ·exact absurd e (B.Au _ hm)
    exact e
   exact h1.1
  subst e;exact rP hm
 JJ:=fun x c h _=>by cases h
 hd:=I.ok.hd
 frames:=I.ok.frames
 Kk:=.inl rfl
 QT := fun b hb=>⟨fun e=>by
     have:=fE b hb;have e':b=C:=e;subst e'
     exact absurd (a_ this hC) (cK _),fun x c e=>(hf b hb).2.2.2.2.1 x c (fY (iH I.ok vn B) e)⟩
 bs:=I.bs
 AV:=fA I.ok.AV I.sz
 sP:=fun b o e hb=>by
  rcases(hf b hb).2.2.2.1 with z|z
  ·exact I.ok.sP b o e z
  have q:=ay (I.ok.bs b o e).1;exact absurd (a_ q z) (cK _)
 xi:=fun b hb z=>by
  rcases av.mp (I.k6 b z)with e|e
  ·exact(hf b hb).2.1 e
  exact(hf b hb).2.2.1 e
 l8:=I.stack
 EC:=I.kD
theorem J9{tk:Nat}{D:Addr}{its:List Value}(I:Inv X pins σ H s)(vn:X.env.scope=sc)(hN:X.N=N)(B:ng sc N scope N' ix)(hf:∀ b∈fp,jf X pins H b)(fE:∀ b∈fp,b<s.heap.objs.size)(hC:s.heap.objs.size<=C)(hD:s.heap.objs.size<=D)(Lm:D≠C)(old:∀ b o,s.heap.get? b=some o->h1.get? b=some o)(nE:h1.Ns C (fun _=>none))(ho:h1.get? D=some (aL its))(e:s1 = { s with heap:=h1,toks:=tk }): Inv (X.pb pins scope (eE X.env scope.names) C N' fp s H) [(D,aL its)] (cR ix σ) H s1:=by
 subst e;have _O:=Mm (C:=C) I vn B hf fE hC;have cells:=iH I.ok vn B;have fresh:∀ a,s.heap.objs.size<=a->H a=none:=fun a ha=>I.hok.fresh ha
 refine⟨_O,Z,I.bare,Un.kept old,?_,?_,fresh C hC,?_,?_,I.hok.kept old,?_⟩
 ·refine ⟨_,nE,fun j x v e1 e2 hv=>?_⟩
  have e2:(cR ix σ)[j]?=some (some v):=e2;unfold cR at e2;rw[kT]at e2;cases q:ix[j]? with
  |none=>rw[q]at e2;cases e2
  | some o =>
   rw[q]at e2;cases o with
   |none=>cases e2
   | some i =>
    have e3:(σ[i]?).join=some v:=by simpa using e2
    have e4:σ[i]?=some (some v):=by
     cases r:σ[i]? with
     |none=>rw[r]at e3;cases e3
     | some o =>
      rw[r]at e3;have e3:o=some v:=e3;rw[e3]
    obtain⟨n1,n2⟩:=B.at_ j x i e1 q;have n3:=B.free _ (mem_of_lookup n2) rfl;obtain⟨m,hm,hl⟩:=I.loc
    have Q9:O_ X.env.scope x:=by
     rw[vn];exact .inr n3
    obtain⟨u,r,l⟩:=hl i x v (by rw[hN];exact n1) e4 Q9;refine⟨u,r,.inr ⟨oJ (env:=X.env) n2,?_⟩⟩;obtain⟨c,hc⟩:=rP (env:=X.env) (mem_of_lookup n2);refine⟨c,hc,?_⟩;have sx:=fY cells hc;rcases l with⟨k,_⟩|⟨_,c',e5,o',z1,z2⟩
    ·have k:X.env.scope.names.lookup x=some .local:=k
     rw[vn]at k;rcases n3 with z|z
     ·rw[k]at z;cases z
     rw[k]at z;cases z
    rw[sx]at e5;cases e5;exact⟨o',old _ _ z1,z2⟩
 ·intro x c e
  obtain⟨v,o,z1,z2⟩:=I.cell x c (fY cells e);exact⟨v,o,old _ _ z1,z2⟩
 ·intro x c e
  exact I.i8 x c (fY cells e)
 ·intro p hp
  rcases aw.mp hp with hp|hp
  ·obtain⟨p1,p2,p3,p4,p5⟩:=I.pin p hp
   refine⟨old _ _ p1,p2,fun z=>?_,fun z=>?_,p5⟩
   ·have z:p.1=C:=z
    have:=ay p1;rw[z]at this;exact absurd (a_ this hC) (cK _)
   rcases av.mp (I.k6 p.1 z)with e|e
   ·exact p3 e
   exact p4 e
  have hp:p=(D,aL its):=ar.mp hp;subst hp;refine⟨ho,fresh D hD,Lm,fun z=>?_,fun v e=>by cases e⟩
  have q:∃ o,s.heap.get? D=some o:=by
   obtain⟨_,o,z,_⟩:=I.stack.mem z;exact⟨o,z⟩
  obtain⟨o,q⟩:=q;exact absurd (a_ (ay q) hD) (cK _)
 show(ix.map _).length=N'.length;rw[dS];exact B.len
theorem Dm{s4:Shared}{H4:Hp}{σ':St}{D:Addr}{its:List Value}{ys:List V}{cl:List (Str×Addr)}(I:Inv X pins σ H s)(hf:∀ b∈fp,jf X pins H b)(hD:s.heap.objs.size<=D)(hC:s.heap.objs.size<=C)(J:Inv (X.pb pins scope cl C N' fp s H) [(D,aL its)] σ' H4 s4)(rv:Vals ys its)(hl:ys.length<=sizeLine):Inv X pins σ (upd H4 D (.lst ys)) s4:=by
 have pD:=J.pin (D,aL its) (m_ _ qms);have I0:H4 D=none:=pD.2.1
 have _V:∀ b o,s.heap.get? b=some o->b≠D:=fun b o e z=>by
  have:=ay e;rw[z]at this;exact absurd (a_ this hD) (cK _)
 have u:=J.base;have u:Un (iq X.stack) fp H H4 s.heap s4.heap:=u;refine I.FK (ch:=fp) J.os ⟨u.keep,u.slot,fun b o e n hx=>?_,u.there,fun b xs e=>?_,fun b o x e=>?_,fun b ps e=>?_⟩ ?_ J.bare (fun b hb=>⟨(hf b hb).2.2.2.1,(hf b hb).2.1,(hf b hb).2.2.2.2.1,(hf b hb).2.2.2.2.2⟩)
 ·rw[aG (_V b o e)]
  exact u.free b o e n hx
 ·have q:=u.b9 b xs e
  rw[aG (aK q I0)];exact q
 ·have q:=u.kL b o x e
  rw[aG (aK q I0)];exact q
 ·obtain⟨more,q⟩:=u.kX b ps e
  exact⟨more,by rw[aG (aK q I0)];exact q⟩
 intro b o e
 by_cases hb:b=D
 ·subst hb
  rw[au]at e;cases e;exact⟨hl,its,_,rv,pD.1⟩
 rw[aG hb]at e;exact(J.hok b o e).stay (fun _ _ _ q=>q) (fun c q=>by rw[aG (aK q I0)];exact q) fun c xs q=>by rw[aG (aK q I0)];exact q
def LD(X:Cx)(ifs:List Expr)(t:TT):Prop :=
 ∀(pins:List (Addr×Obj))(s:Shared)(σ:St)(H:Hp)(Q:Bool->Hp->Prop),Inv X pins σ H s->t σ H Q ->
  wpAny (model X.prog X.w) X.A (forIn ifs true fun c r=>if r=true then do let ok <- isTrue c X.env (eval c X.env);pure (ForInStep.yield ok)else pure (ForInStep.yield r)) (TP X pins σ Q) X.xe s
def Bb:TT:=fun _ H Q=>Q true H
theorem cM:LD X [] Bb:=fun pins s σ H Q I h=>wpAny_tests_nil ⟨H,I,h⟩
theorem gr{c:Expr}{t:TT}(h:PT X c t):LD X [c] t:=fun pins s σ H Q I q=>wpAny_tests_one (h pins s σ H Q I q)
def jB(J:It)(ix:List (Option Nat))(g:TG)(tt:TT)(te:TE)(σ:St)(H:Hp)(Q:VK):Prop :=
 ∃ W : Nat->Nat->List V->Hp->Prop,(∃ m,W 0 m [] H)/\∀ i m ys H,W i m ys H->ys.length<=sizeLine /\
  ((J.stop i H/\∀ p,H p=none->Q (.ref p) (upd H p (.lst ys))) \/
  (J.go i H/\∃ N:List V->Hp->Prop,(∀ ys' H',N ys' H'->∃ m',m'<m/\W (i+1) m' ys' H') /\
   ∀ x H',J.ET i H x H'->g x (cR ix σ) H' fun σ2 H2=>Ext (cR ix σ) σ2/\tt σ2 H2 fun ok H3=>if ok=true then te σ2 H3 fun y H4=>N (ys++[y]) H4 else N ys H3))
def Bc(wi:TI)(ix:List (Option Nat))(g:TG)(tt:TT)(te:TE):TE:=fun σ H Q=>wi σ H fun J H1=>jB J ix g tt te σ H1 Q
section
variable{g:TG}
theorem yK{use:Option (Value->Sem Unit)}{QQ:Value->Shared->Prop}{Q:VK}(hc:X.calm=true)(hi:PI X tg iter wi)(vn:X.env.scope=sc)(hN:X.N=N)(B:ng sc N scope N' ix)(hg:∀ pins cl C fp s H,PG (X.pb pins scope cl C N' fp s H) tg g)(ht:∀ pins cl C fp s H,LD (X.pb pins scope cl C N' fp s H) ifs tt)(he:∀ pins cl C fp s H,PE (X.pb pins scope cl C N' fp s H) elt te)(hs:∀ x,foldedSetIterable iter X.env x=pure x)(I:Inv X pins σ H s)(h:Bc wi ix g tt te σ H Q)(fin:∀(D C:Addr)(s4:Shared)(H4:Hp)(m:Str->Option Value),Inv X pins σ H4 s4->Q (.ref D) H4->s4.heap.Ns C m->jf X pins H4 C -> compPost (model X.prog X.w) X.A X.xe use QQ (.ref D) C (.ok .next) s4): wpAny (model X.prog X.w) X.A (comprehension (.ListComp elt [⟨tg,iter,ifs,0⟩] scope pos) scope X.env fq (newList []) false (eval iter X.env) use) QQ X.xe s:=by
 refine wpAny_comprehension_free (use:=use) rfl hs (vh (iH I.ok vn B)) B.kind B.names (thn (hi pins s σ H _ I h) fun v s1 h1=>thn h1 fun RG s2 h2=>?_);obtain⟨it,fp,tn,J,H2,e,I2,T,PH,f2,W,⟨m0,w0⟩,turn⟩:=h2;subst e;refine fg (wpAny_newFunctionEnv B.Au (by intro y hy;simp at hy) (fun h₁ II D2=>?_) B.kind);dsimp only at II D2 ⊢;generalize IZ:s2.heap.push { cls:=.type "list",dict:=none,data:=.seq ([]:List Value).toArray }=G2 at II D2 ⊢;have hC:G2.objs.size=s2.heap.objs.size+1:=by rw[<- IZ,j']
 have I_:s2.heap.objs.size<=G2.objs.size:=by rw[hC];exact Nat.le_succ _
 have Lm:s2.heap.objs.size≠G2.objs.size:=by rw[hC];exact b4 (mT _)
 have old:∀ b o,s2.heap.get? b=some o->h₁.get? b=some o:=fun b o e=>D2.extBut b o (by rw[hC];exact b4 (ly (ay e))) (Heap.get?_push_of_some _ (IZ ▸ Heap.get?_push_of_some _ e))
 have EB:h₁.get? s2.heap.objs.size=some (aL []):=D2.extBut _ _ Lm (Heap.get?_push_of_some _ (IZ ▸ Heap.get?_push_size _ rfl))
 have fE:∀ b∈fp,b<s2.heap.objs.size:=fun b hb=>by
  obtain⟨o,e,_⟩:=T.obj _ _ PH b hb;exact ay e
 have FY:tn 0 h₁:=T.keep _ _ _ PH fun b _ o e=>old b o e
 have I1:=J9 (fp:=fp) (C:=G2.objs.size) (D:=s2.heap.objs.size) (its:=[]) (h1:=h₁) (tk:=s2.toks+([]:List (Str×Value)).length) I2 vn hN B f2 fE I_ (qnr _) Lm old II EB rfl
 have SV:∀{H':Hp}{pl:List (Addr×Obj)},(∀ b∈fp,H' b=none)->(∀ p∈pl,p.1=s2.heap.objs.size)->∀ b∈fp,jf (X.pb pins scope (eE X.env scope.names) G2.objs.size N' fp s2 H2) pl H' b:=fun hn gI b hb=>by
  refine⟨hn b hb,fun z=>?_,fun z=>?_,.inl hb,fun x c e=>(f2 b hb).2.2.2.2.1 x c (fY (iH I2.ok vn B) e),fun p hp=>?_⟩
  ·have z:b=G2.objs.size:=z
   have:=fE b hb;rw[z,hC]at this;exact absurd (eJ this) (cK _)
  ·rcases av.mp (I2.k6 b z)with e|e
   ·exact(f2 b hb).2.1 e
   exact(f2 b hb).2.2.1 e
  rcases aw.mp hp with hp|hp
  ·exact(f2 b hb).2.2.2.2.2 p hp
  rw[gI p hp];exact Nat.ne_of_gt (fE b hb)
 have IF:∀(o:Obj),∀ p∈[(s2.heap.objs.size,o)],p.1=s2.heap.objs.size:=fun o p hp=>by
  rw[ar.mp hp]
 have loop:codeAny (model X.prog X.w) X.A (.compLoop (.ListComp elt [⟨tg,iter,ifs,0⟩] scope pos) 0 (.ref it) (.ref s2.heap.objs.size) (compEnvC scope (eE X.env scope.names) G2.objs.size X.env))
   (compPost (model X.prog X.w) X.A X.xe use QQ (.ref s2.heap.objs.size) G2.objs.size) { s2 with heap:=h₁,toks:=s2.toks+([]:List (Str×Value)).length }:=by
  refine Dl (fun n s'=>∃ i ys H' its,Inv (X.pb pins scope (eE X.env scope.names) G2.objs.size N' fp s2 H2) [(s2.heap.objs.size,aL its)] (cR ix σ) H' s'/\Vals ys its/\tn i s'.heap/\(∀ b∈fp,H' b=none)/\W i n ys H') ?_ m0
   ⟨0,[],H2,[],I1,.nil,FY,fun b hb=>(f2 b hb).1,w0⟩
  rintro n s3 ⟨i,ys,H3,its,I3,rv,LO,NV,w3⟩;obtain⟨hl,tr⟩:=turn i n ys H3 w3;rcases tr with⟨stop,q⟩|⟨go,N,hN,step⟩
  ·refine thn (T.done (X.pb pins scope (eE X.env scope.names) G2.objs.size N' fp s2 H2) rfl rfl rfl hc i _ s3 _ H3 _ I3 (SV NV (IF _)) LO stop) fun r s4 ⟨hr,I4⟩=>?_
   subst hr;have I5:=Dm I2 f2 (qnr _) I_ I4 rv hl;obtain⟨m,hm,_⟩:=I4.loc;have I0:=(I4.pin (s2.heap.objs.size,aL its) (m_ _ qms)).2.1;refine fin _ _ s4 _ m I5 (q _ I0) hm ?_;have hCn:H3 G2.objs.size=none:=I4.free;refine I2.pw I_ ?_;rw[aG (ba Lm)];exact hCn
  refine thn (T.item (X.pb pins scope (eE X.env scope.names) G2.objs.size N' fp s2 H2) rfl rfl rfl hc i _ s3 _ H3 _ I3 (SV NV (IF _)) LO go) fun r s4 ⟨u,hr,h4⟩=>?_
  subst hr;refine thn h4 fun _ s5 ⟨x,H5,I5,r5,y5,FX,SU⟩=>?_
  have Uy:=I5.pinned (SV SU (IF _)) (T.obj _ _ FX);refine thn (hg _ _ _ _ _ _ _ s5 _ H5 x u _ Uy r5 (step x H5 y5)) fun _ s6 ⟨σ6,H6,I6,W8,q6⟩=>?_
  refine thn (ht _ _ _ _ _ _ _ s6 σ6 H6 _ I6 q6) fun ok s7 ⟨H7,I7,q7⟩=>?_
  have back:∀{s8:Shared}{H8:Hp}{its':List Value}{ys':List V},Inv (X.pb pins scope (eE X.env scope.names) G2.objs.size N' fp s2 H2) ([(s2.heap.objs.size,aL its')]++j8 fp s5.heap) σ6 H8 s8->Vals ys' its'->N ys' H8 ->
    ∃ m,m<n/\∃ i ys H' its,Inv (X.pb pins scope (eE X.env scope.names) G2.objs.size N' fp s2 H2) [(s2.heap.objs.size,aL its)] (cR ix σ) H' s8/\Vals ys its/\tn i s8.heap/\(∀ b∈fp,H' b=none)/\W i m ys H':=fun {s8 H8 its' ys'} I8 _I n8=>by
   obtain⟨m',hm,w8⟩:=hN ys' H8 n8;refine⟨m',hm,i+1,ys',H8,its',(I8.weak W8.length fun j v e=>W8.get j v e).lS,_I,T.keep _ _ _ FX fun b hb o e=>(I8.pin (b,o) (m_ _ (m_ _ (jM hb e)))).1,fun b hb=>?_,w8⟩;obtain⟨o,e,d⟩:=T.obj _ _ FX b hb;exact(I8.pin (b,o) (m_ _ (m_ _ (jM hb e)))).2.1
  cases ok with
  | false =>
   rw[bq gc]at q7 ⊢;exact back I7 rv q7
  | true =>
   rw[b6 rfl]at q7 ⊢;refine thn (he _ _ _ _ _ _ _ s7 σ6 H7 _ I7 q7) fun yv s8 ⟨y,H8,I8,r8,q8⟩=>?_
   have pD:=I8.pin (s2.heap.objs.size,aL its) (m_ _ (sN _ qms));refine append_at (hsz:=by show its.toArray.size<=sizeLine;rw[ah,<- rv.length];exact hl) pD.1 fun h9 hs9 hD9=>?_
   have e9:h9.get? s2.heap.objs.size=some (aL (its++[yv])):=by
    rw[hD9];show some ({ cls:=.type "list",data:=.seq (its.toArray.push yv) (its.length+1) }:Obj)=some { cls:=.type "list",data:=.seq (its++[yv]).toArray (its++[yv]).length };rw[aS,i6,List.push_toArray]
   have I8':Inv (X.pb pins scope (eE X.env scope.names) G2.objs.size N' fp s2 H2) (j8 fp s5.heap) σ6 H8 s8:=I8.ny fun p hp=>I8.pin p (m_ _ (m_ _ hp))
   have Vn:∀ p∈(X.pb pins scope (eE X.env scope.names) G2.objs.size N' fp s2 H2).pn++j8 fp s5.heap,p.1≠s2.heap.objs.size:=fun p hp=>by
    rcases aw.mp hp with hp|hp
    ·exact b4 (ay (I2.pin p hp).1)
    exact b4 (fE _ (uo hp).1)
   have I9:=I8'.turned (t':=s8.toks) (it:=s2.heap.objs.size) (fun b o hb e=>hs9.extBut b o hb e) pD.2.1 Lm (.inr (qnr _)) (fun x c e z=>by
    subst z;obtain⟨v,o,z1,z2⟩:=I8.cell x _ e;rw[pD.1]at z1;cases z1
    cases z2) Vn
   refine back (its':=its++[yv]) (ys':=ys++[y]) (I9.ny fun p hp=>?_) (rv.append (.cons r8 .nil)) q8;rcases aw.mp hp with hp|hp
   ·rw[ar.mp hp]
    exact⟨e9,pD.2.1,pD.2.2.1,pD.2.2.2.1,fun v e=>by cases e⟩
   exact I9.pin p (m_ _ hp)
 exact codeAny_compStart_list loop (T.self X.A 0 _ _ _ FY loop)
theorem bW(hc:X.calm=true)(N':List Str)(ix:List (Option Nat))(hi:PI X tg iter wi)(hB:vG X.env.scope X.N scope N' ix=true)
  (hg:∀ pins cl C fp s H,PG (X.pb pins scope cl C N' fp s H) tg g) (ht:∀ pins cl C fp s H,LD (X.pb pins scope cl C N' fp s H) ifs tt) (he:∀ pins cl C fp s H,PE (X.pb pins scope cl C N' fp s H) elt te)
  (hs:∀ x,foldedSetIterable iter X.env x=pure x:=by intro _;rfl):PE X (.ListComp elt [⟨tg,iter,ifs,0⟩] scope pos) (Bc wi ix g tt te):=by
 intro pins s σ H Q I h;rw[eval_ListComp];refine yK (use:=none) hc hi rfl rfl (ng.of hB) hg ht he hs I h fun D C s4 H4 m I4 q4 hm hf=>?_
 refine⟨m,hm,fun h' wo=>?_⟩;exact⟨.ref D,H4,I4.turned (t':=s4.toks) (fun b o hb e=>wo.extBut b o hb e) hf.1 hf.2.1 hf.2.2.2.1 hf.2.2.2.2.1 hf.2.2.2.2.2,Z,q4⟩
theorem iR{LP:Pos}(hc:X.calm=true)(N':List Str)(ix:List (Option Nat))(hNd:X.N.Nodup)(_4:X.N[i]?=some x)(hx:X.env.scope.names.lookup x=some .local)(hi:PI X tg iter wi)(hB:vG X.env.scope X.N scope N' ix=true)
  (hg:∀ pins cl C fp s H,PG (X.pb pins scope cl C N' fp s H) tg g) (ht:∀ pins cl C fp s H,LD (X.pb pins scope cl C N' fp s H) ifs tt) (he:∀ pins cl C fp s H,PE (X.pb pins scope cl C N' fp s H) elt te)
  (hsw:swapsWith (.ListComp elt [⟨tg,iter,ifs,0⟩] scope pos) (some (.Name x pos')) LP.line X.env=pure true:=by rfl)
  (hs:∀ x,foldedSetIterable iter X.env x=pure x:=by intro _;rfl):PS X (.Assign [.Name x pos'] (.ListComp elt [⟨tg,iter,ifs,0⟩] scope pos) LP) (Ai (Bc wi ix g tt te) (lA i)):=by
 intro pins s σ H D I h;rw[exec_Assign_Name_used _ _ _ _ hsw];refine ae (wpAny_standAt (ae ?_));show wpAny _ X.A (do let _ <- comprehension (.ListComp elt [⟨tg,iter,ifs,0⟩] scope pos) scope X.env _ (newList []) false (eval iter X.env) (some (assign (.Name x pos') X.env))) _ _ s;refine ae (df (yK (use:=some (assign (.Name x pos') X.env)) (QQ:=fun _ s'=>SP X pins D .next s') hc hi rfl rfl (ng.of hB) hg ht he hs I h fun Da C s4 H4 m I4 q4 hm hf=>?_) (fun _ s' hq=>aI (aI hq)) fun _ _ e=>e);show wpAny _ X.A (assign (.Name x pos') X.env (.ref Da)) _ _ _;refine wpAny_assign_Name (um (v:=.ref Da) I4 hNd _4 (.inl hx) rfl (fun s5 I5 RT=>?_) (.inr hx));obtain⟨a,RT,ha⟩:=RT
 have hCa:C≠a:=by
  rcases ha with z|z
  ·rw[z];exact hf.2.1
  exact fun e=>hf.2.2.2.2.1 x a z e.symm
 refine⟨m,hm.sameBut RT hCa,fun h' wo=>?_⟩;exact⟨_,H4,I5.turned (t':=s5.toks) (fun b o hb e=>wo.extBut b o hb e) hf.1 hf.2.1 hf.2.2.2.1 hf.2.2.2.2.1 hf.2.2.2.2.2,q4⟩
end
theorem Gx{α:Type}(xs:List α)(i k:Nat):(List.range k).filterMap (fun m=>xs[i+m]?)=(xs.drop i).take k:=by
 induction k with
 |zero=>simp
 | succ k ih =>
  rw[c9,List.filterMap_append,ih,pj,List.getElem?_drop];cases h:xs[i+k]? with
  |none=>simp[h]
  |some v=>simp[h]
theorem vH(n:Nat)(i:Int)(d:Nat):max 0 (min (if i<0 then i+(n:Int)else i) (n:Int))=((HT.fb n d (some i):Nat):Int):=by
 simp only[HT.fb]
 by_cases h:i<0
 ·simp only[h,i_];exact oo
 simp only[h,mM];exact oo
theorem wB(a b:Nat):List.map (fun k:Nat=>((a:Int)+1*(k:Int)).toNat) (List.range (if (a:Int)<(b:Int)then((b:Int)-a+1-1)/1 else 0).toNat)=(List.range (b-a)).map fun k=>a+k:=by
 have e:(if (a:Int)<(b:Int)then((b:Int)-a+1-1)/1 else 0).toNat=b-a:=by
  split<;>exact oo
 rw[e];apply pV;intro k _;exact oo
theorem picked_eq(n:Nat)(lo hi:Option Int):Builtin.Str.strSliceIndices lo hi 1 n=(List.range (HT.fb n n hi-HT.fb n 0 lo)).map fun k=>HT.fb n 0 lo+k:=by
 unfold Builtin.Str.strSliceIndices sliceRange;simp only[show((1:Int)>0)=True by simp,i_];rw[<- wB];cases lo with
 | none =>
  cases hi with
  |none=>rfl
  |some j=>simp only[vH n j n];rfl
 | some i =>
  cases hi with
  |none=>simp only[vH n i 0];rfl
  |some j=>simp only[vH n i 0,vH n j n]
def dD(x:Str)(lo hi:Option Int):Str:=⟨((x.cps.toList.drop (HT.fb x.length 0 lo)).take (HT.fb x.length x.length hi-HT.fb x.length 0 lo)).toArray⟩
theorem fG(x:Str)(lo hi:Option Int):(dD x lo hi).cps.toList=(x.cps.toList.drop (HT.fb x.length 0 lo)).take (HT.fb x.length x.length hi-HT.fb x.length 0 lo):=by
 simp[dD]
theorem yL(x:Str)(lo hi:Option Int):(dD x lo hi).length <= x.length:=by
 show(dD x lo hi).cps.size<=x.cps.size;rw[<- ag,fG,bE,dA,ag];exact oo
def Qh:V->Option Int->Option Int->Hp->VK->Prop:=fun x lo hi H Q=>∃ z,x=.str z/\z.length<=sizeLine/\Q (.str (dD z lo hi)) H
theorem wC:Q4 X Qh:=by
 intro pins s σ H x v vl vu lo hi sl Q I r hs pl pu h;obtain⟨z,rfl,hz,q⟩:=h;obtain⟨t,rfl⟩:=r
 obtain⟨l,hl,el⟩:∃ l:Option (Int×Tok),vl=partValue l/\l.map (·.1)=lo:=by
  cases pl with
  |none=>exact⟨none,Z,Z⟩
  |int i t=>exact⟨some (i,t),Z,Z⟩
 obtain⟨u,hu,eu⟩:∃ u:Option (Int×Tok),vu=partValue u/\u.map (·.1)=hi:=by
  cases pu with
  |none=>exact⟨none,Z,Z⟩
  |int i t=>exact⟨some (i,t),Z,Z⟩
 subst hl hu;refine⟨"str",_,F.slot_str_getitem.lookup,mI s z t,wpAny_getItem_str_slice (l:=l) (u:=u) (st:=none) hs rfl ?_⟩
 have ep:slicePicked z l u none=(List.range (HT.fb z.length z.length hi-HT.fb z.length 0 lo)).map fun k=>HT.fb z.length 0 lo+k:=by
  unfold slicePicked;rw[el,eu];exact picked_eq z.length lo hi
 have ec:(slicePicked z l u none).filterMap (fun i=>z.cps[i]?)=(dD z lo hi).cps.toList:=by
  rw[ep,List.filterMap_map,fG]
  have e2:((fun i=>z.cps[i]?) ∘ fun k=>HT.fb z.length 0 lo+k)=fun m=>z.cps.toList[HT.fb z.length 0 lo+m]?:=by
   funext m
   simp
  rw[e2];exact Gx _ _ _
 unfold sliceMade
 split
 ·rename_i hw
  have _9:(slicePicked z l u none).length=z.length:=by simpa using hw
  rw[ep,dS,b5]at _9
  have e:dD z lo hi=z:=by
   have b1:HT.fb z.length z.length hi<=z.length:=HT.z5 _ _ (qnr _) _
   have e1:(dD z lo hi).cps.toList=z.cps.toList:=by
    rw[fG];have lz:z.cps.toList.length=z.length:=ag
    by_cases h0:z.length=0
    ·have:z.cps.toList=[]:=x8 (by rw[lz,h0])
     rw[this];simp
    have a0:HT.fb z.length 0 lo=0:=oo
    have b0:HT.fb z.length z.length hi=z.length:=oo
    rw[a0,b0,EN,Nat.sub_zero,<- lz,bS]
   have e2:(dD z lo hi).cps=z.cps:=xy.mp e1;exact bP Str.mk e2
  rw[e]at q;exact⟨.str z,H,I,⟨t,Z⟩,q⟩
 have e:(⟨((slicePicked z l u none).filterMap (fun i=>z.cps[i]?)).toArray⟩:Str)=dD z lo hi:=by
  rw[ec]
 rw[e];exact⟨fA (yL z lo hi) hz,.str (dD z lo hi),H,I.tok _,⟨_,Z⟩,q⟩
theorem lB:∀{ys:List Str}{us:List Value},Vals (ys.map V.str) us->StrsAre us ys
 |[],_,h=>by cases h;exact .nil
 | y::ys,_,h=>by
  cases h with
  | cons r t =>
   obtain⟨t',rfl⟩:=r;exact .cons _ _ (lB t)
theorem uD:∀{us:List Value}{ys:List Str},StrsAre us ys->Vals (ys.map V.str) us
 |_,_,.nil=>.nil
 |_,_,.cons x t h=>.cons ⟨t,rfl⟩ (uD h)
theorem Jq:∀{l₁:List (Key×V)}{l₂:List (Key×Value)},KV l₁ l₂->∀(j:Nat)(k:Key)(x:Value),l₂[j]?=some (k,x)->∃ v,l₁[j]?=some (k,v)
 |_,_,.nil,j,k,x,e=>by simp at e
 | p::_,_,.cons hr _,0,k,x,e=>by
  rw[List.getElem?_cons_zero]at e;have e:=iE e;subst e;have h1:p.1=k:=hr.1;exact⟨p.2,by rw[List.getElem?_cons_zero,<- h1]⟩
 | _::_,_,.cons _ t,j+1,k,x,e=>by
  rw[List.getElem?_cons_succ]at e;obtain⟨v,hv⟩:=Jq t j k x e;exact⟨v,by rw[List.getElem?_cons_succ];exact hv⟩
def Mr:List V->Hp->VK->Prop:=fun xs H Q=>∃(p:Addr)(kvs:List (Key×V))(ys:List Str),xs=[.ref p]/\H p=some (.dK kvs)/\kvs.map (·.1)=ys.map Sum.inr/\ys.length<64 /\
 ∀ l ys',H l=none->ys'.Perm ys->sortedS ys'=true->Q (.ref l) (upd H l (.lst (ys'.map V.str)))
theorem wD(hc:X.calm=true):dN X (.builtin "sorted") Mr:=by
 intro pins s σ H xs us Q I r h;obtain⟨p,kvs,ys,rfl,hp,hk,hl,q⟩:=h;obtain⟨u,rfl,ru⟩:=vals1 r;cases ru;obtain⟨hz,lo,vs,rk,hD⟩:=I.hok p _ hp
 have hlk:kvs.length=ys.length:=by
  have:=bP List.length hk
  rwa [dS,dS]at this
 have hlv:kvs.length=vs.length:=bg rk;obtain⟨ep,xb⟩:=hD.dictAt;have hh:X.A.handled=none:=I.ok.hd hc;refine Calls.call_function_entry kind_sorted plain_sorted entry_sorted (args_sorted1 _) ?_;unfold Builtin.«sorted»;refine ae (m:=checkCount "sorted" 1 1 _) (aI ?_);refine ae (W.kdu_collect (A:=X.A.in1) (W.kdl_dict (knd:=bL X.prog X.w) (kvs:=vs) (ep:=ep) lo) hh xb (fA (by omega:vs.length<=64) odz) fun h' tk acc QD EB=>?_);have Sk:acc.toList.length=vs.length:=by rw[ag];exact EB.1
 have keys:∀(j:Nat)(kv:Key×V),kvs[j]?=some kv->∃ y,ys[j]?=some y/\kv.1=Sum.inr y:=fun j kv e=>by
  have e1:(kvs.map (·.1))[j]?=some kv.1:=by rw[kT,e];rfl
  rw[hk,kT]at e1;cases e2:ys[j]? with
  |none=>rw[e2]at e1;cases e1
  |some y=>rw[e2]at e1;exact⟨y,Z,(iE e1).symm⟩
 have MC:Vals (ys.map V.str) acc.toList:=by
  have gen:∀(us:List Value)(zs:List Str),us.length=zs.length->(∀(j:Nat) u,us[j]?=some u->∃ y t,zs[j]?=some y/\u=Value.str y t)->Vals (zs.map V.str) us:=by
   intro us
   induction us with
   | nil=>intro zs hl _;cases zs with
    |nil=>exact .nil
    |cons _ _=>simp at hl
   | cons u us ih =>
    intro zs hl h;cases zs with
    |nil=>simp at hl
    | cons z zs =>
     obtain⟨y,t,e1,e2⟩:=h 0 u rfl;rw[List.getElem?_cons_zero]at e1;cases e1;subst e2;exact .cons ⟨t,rfl⟩ (ih zs (by simpa using hl) fun j u' e=>h (j+1) u' e)
  refine gen _ _ oo fun j u e=>?_
  obtain⟨k,x,e1,e2⟩:=EB.2 j u (by rw[<- Array.getElem?_toList];exact e);obtain⟨v,e3⟩:=Jq rk j k x e1;obtain⟨y,e4,e5⟩:=keys j _ e3;have e5:k=Sum.inr y:=e5;subst e5;have e2:mL (Sum.inr y) u=true:=e2;rcases cN e2 with⟨i,t,z1,_⟩|⟨y',t,z1,z2⟩
  ·cases z1
  cases z1;exact⟨y,t,e4,z2⟩
 have hS:=lB MC;refine ae (wpAny_newList ?_ (by rw[Sk];exact fA (by omega:vs.length<=64) odz));have MW:(h'.push { cls:=.type "list",data:=.seq acc.toList.toArray }).get? h'.objs.size=some (seqObj "list" acc.toList.toArray 0):=Heap.get?_push_size _ rfl;refine ae (x3 (kx slot_list_sort ⟨_,MW,rfl⟩ entry_list_sort (list_sort_treeK strKind_oneLt MW hS.keysOf (fun v₁ v₂ rest e=>keyKind_strs (by rw[<- e];exact hS)) oo fun k7 a1 a2=>⟨_,rfl,?_⟩) (args_list_sort _)));obtain⟨ys',h1,h2,h3⟩:=sorted_out_str hS a1 a2;refine aI ⟨_,rfl,?_⟩;obtain⟨e,he⟩:=sortedHeap_at (out:=(arrOf k7).map (·.2)) MW;have I':Inv X pins σ H { s with heap:=h',toks:=tk }:=I.kept (t':=tk) QD
 have old:∀ b o,h'.get? b=some o->(sortedHeap (h'.push { cls:=.type "list",data:=.seq acc.toList.toArray }) h'.objs.size acc.toList ((arrOf k7).map (·.2))).get? b=some o:=fun b o OF=>by
  have fE:=ay OF;rw[sortedHeap_old (b4 fE) (by rw[size_push'];exact ly fE)];exact Heap.get?_push_of_some _ OF
 refine⟨.ref h'.objs.size,_,I'.laid (o:=.lst (ys'.map V.str)) (t':=tk) old (qnr _) ⟨?_,((arrOf k7).map (·.2)).toList,e,uD h1,?_⟩,Z,q _ ys' (I'.hok.fresh (qnr _)) h2 h3⟩
 ·rw[dS,h2.length_eq]
  exact fA (kA hl) odz
 rw[he]
theorem yM:∀{bs:List Bool}{us:List Value},Vals (bs.map V.bl) us->us=bs.map Value.bool
 |[],_,h=>by cases h;rfl
 | b::bs,_,h=>by
  cases h with
  | cons r t =>
   have r:_=Value.bool b:=r;rw[b3,r,yM t]
theorem range_all(bs:List Bool):(List.range bs.length).all (fun i=>bs.getD i false)=bs.all id:=by
 induction bs with
 |nil=>rfl
 | cons b r ih =>
  rw[bp,List.range_succ_eq_map,js,js,uj,<- ih]
  rfl
def Qi(K:W.Frag):List V->Hp->VK->Prop:=fun xs H Q=>∃(p:Addr)(bs:List Bool),xs=[.ref p]/\SqL K H p (bs.map V.bl)/\Q (.bl (bs.all id)) H
theorem Gy(bs:List Bool):TruthOf prog w A (fun i v=>(bs.map Value.bool).toArray[i]?=some v) (fun i=>bs.getD i false):=by
 intro i v s Q E hP hQ;have hP:(bs.map Value.bool)[i]?=some v:=by simpa using hP
 rw[kT]at hP;cases e:bs[i]? with
 |none=>rw[e]at hP;cases hP
 | some b =>
  rw[e]at hP;have hP:=iE hP;subst hP;have:bs.getD i false=b:=by simp[List.getD,e]
  have hQ:Q (bs.getD i false) s:=hQ;rw[this]at hQ;exact c6 hQ
theorem lC(hc:X.calm=true):dN X (.builtin "all") (Qi X.K):=by
 intro pins s σ H xs us Q I r h;obtain⟨p,bs,rfl,hp,q⟩:=h;obtain⟨u,rfl,ru⟩:=vals1 r;cases ru;obtain⟨its,rv,pl,hz⟩:=I.list hp;have ei:=yM rv;subst ei
 have fE:p<s.heap.objs.size:=by
  obtain⟨_,_,e,_⟩:=pl;exact ay e
 have hh:X.A.handled=none:=I.ok.hd hc;refine call_all_walk (wpAny_pyIter_list pl.isList ⟨s.heap.objs.size,_,_,_,_,_,fun i=>bs.getD i false,rfl,Walks.list (A:=X.A.in1) hh s.heap.objs.size p (b4 fE) (bs.map Value.bool).toArray,⟨⟨_,Heap.get?_push_size _ rfl,rfl,rfl⟩,pl.isList.push _⟩,Gy bs,fun h' tk hk=>?_⟩)
 have e:(List.range (bs.map Value.bool).toArray.size).all (fun i=>bs.getD i false)=bs.all id:=by
  rw[ah,dS];exact range_all bs
 rw[e];refine⟨.bl (bs.all id),H,I.kept (t':=tk) fun b o eb=>hk b o (fun hm=>?_) (Heap.get?_push_of_some _ eb),Z,q⟩;exact absurd (ay eb) (by rw[ar.mp hm];exact cK _)
def Qj:V->Option Value
 | .ty n=>some (.type n)
 | .ref a=>some (.ref a)
 |_=>none
def Qk(K:W.Frag):List V->Hp->VK->Prop:=fun xs H Q=>∃ x c t cv b,xs=[x,c]/\Qj c=some cv/\mr K H x t/\W.kitOne K t cv=some b/\Q (.bl b) H
theorem fZ:dN X (.builtin "isinstance") (Qk X.K):=by
 intro pins s σ H xs us Q I r h;obtain⟨x,c,t,cv,b,rfl,hc,ty,hk,q⟩:=h;obtain⟨u,w',rfl,ru,qc⟩:=vals2 r
 have e:w'=cv:=by
  cases c with
  |ty n=>have qc:w'=Value.type n:=qc;rw[qc];exact iE hc
  |ref a=>have qc:w'=Value.ref a:=qc;rw[qc];exact iE hc
  |_=>cases hc
 subst e;exact CZ I ru ty hk fun tk=>⟨.bl b,H,I.tok tk,rfl,q⟩
inductive rJoin(K:W.Frag)(x:V)(vs:List V)(H:Hp)(Q:VK):Prop
 |mk(z:Str)(p:Addr)(ys:List Str)(_:x=.str z)(_:vs=[.ref p])(_:SqL K H p (ys.map V.str))(_:(ys.map (·.length)).sum+ys.length*z.length<=16777216)(_:Q (.str (Txt.join z ys)) H)
theorem jW:sC X "str.join" (rJoin X.K):=by
 intro pins s σ H x xs v us Q I rx r h;obtain⟨z,p,ys,rfl,rfl,hp,hs,q⟩:=h;obtain⟨t,rfl⟩:=rx;obtain⟨u,rfl,ru⟩:=vals1 r;cases ru;obtain⟨its,rv,pl,hz⟩:=I.list hp;exact join_list pl.isList (by simpa using lB rv) hs fun t' k=>⟨.str _,H,I.tok k,⟨t',rfl⟩,q⟩
section
variable{g:TG}{Q:VK}
theorem jN(Pv:Nat->List V->Hp->Prop)(h0:Pv 0 [] H)(hn:n<=sizeLine)(hl:∀ i ys H,Pv i ys H->ys.length<=i)(hs:∀ i ys H,i<n->Pv i ys H->g (.int (lo+i)) (cR ix σ) H fun σ2 H2=>Ext (cR ix σ) σ2/\tt σ2 H2 fun ok H3=>if ok=true then te σ2 H3 fun y H4=>Pv (i+1) (ys++[y]) H4 else Pv (i+1) ys H3)(hd:∀ ys H,Pv n ys H->∀ p,H p=none->Q (.ref p) (upd H p (.lst ys))):jB (Pp lo n) ix g tt te σ H Q:=by
 refine⟨fun i m ys H=>m=n-i/\i<=n/\Pv i ys H,⟨n,oz,mf _,h0⟩,?_⟩;rintro i m ys H ⟨rfl,hi,p⟩;refine⟨fA (hl _ _ _ p) (fA hi hn),?_⟩
 by_cases fE:i<n
 ·refine .inr ⟨fE,Pv (i+1),fun ys' H' p'=>⟨n-(i+1),oo,rfl,fE,p'⟩,fun x H' y=>?_⟩
  obtain⟨e,y⟩:=y;subst e y;exact hs i ys _ fE p
 have e:i=n:=oo
 subst e;exact .inl ⟨qnr _,hd ys H p⟩
theorem fU(Pv:Nat->List V->Hp->Prop)(h0:Pv 0 [] H)(hn:xs.length<=sizeLine)(hl:∀ i ys H,Pv i ys H->ys.length<=i)(hx:∀ i ys H,Pv i ys H->SqL K H a xs)(hs:∀ i x ys H,xs[i]?=some x->Pv i ys H->g x (cR ix σ) H fun σ2 H2=>Ext (cR ix σ) σ2/\tt σ2 H2 fun ok H3=>if ok=true then te σ2 H3 fun y H4=>Pv (i+1) (ys++[y]) H4 else Pv (i+1) ys H3)(hd:∀ ys H,Pv xs.length ys H->∀ p,H p=none->Q (.ref p) (upd H p (.lst ys))):jB (LG K a) ix g tt te σ H Q:=by
 refine⟨fun i m ys H=>m=xs.length-i/\i<=xs.length/\Pv i ys H,⟨xs.length,oz,mf _,h0⟩,?_⟩;rintro i m ys H ⟨rfl,hi,p⟩;have q:=hx i ys H p;refine⟨fA (hl _ _ _ p) (fA hi hn),?_⟩
 by_cases fE:i<xs.length
 ·refine .inr ⟨⟨xs,xs[i],q,by simp[fE]⟩,Pv (i+1),fun ys' H' p'=>⟨xs.length-(i+1),oo,rfl,fE,p'⟩,fun x H' y=>?_⟩
  obtain⟨e,y⟩:=y;subst e;exact hs i x ys _ (y xs q) p
 have e:i=xs.length:=oo
 subst e;exact .inl ⟨⟨xs,q,qnr _⟩,hd ys H p⟩
theorem cZ(f:Nat->V)(hn:n<=sizeLine)(hs:∀ i (R:VK),i<n->R (f i) H->Ext (cR ix σ) ((cR ix σ).set 0 (some (.int (lo+i))))/\te ((cR ix σ).set 0 (some (.int (lo+i)))) H R)(hd:∀ p,H p=none->Q (.ref p) (upd H p (.lst ((List.range n).map f)))):jB (Pp lo n) ix (lA 0) Bb te σ H Q:=by
 refine jN (fun i ys H'=>H'=H/\ys=(List.range i).map f) ⟨rfl,rfl⟩ hn (fun i ys H' ⟨_,e⟩=>by rw[e];simp) ?_ (fun ys H' ⟨e1,e2⟩ p hp=>by subst e1 e2;exact hd p hp);rintro i ys H' hi ⟨rfl,rfl⟩;obtain⟨h1,h2⟩:=hs i (fun y H4=>H4=H'/\(List.range i).map f++[y]=(List.range (i+1)).map f) hi ⟨rfl,by rw[c9,ax];rfl⟩;exact⟨h1,h2⟩
end
theorem qL{α:Type}{xs:List α}{i:Int}{v:α}(h0:0<=i)(h:xs[i.toNat]?=some v):qo xs i=some v:=by
 have e:i=((i.toNat:Nat):Int):=oo
 rw[e];exact bR h
theorem Ms(x:Str){v:Int}(h:0<=v):(dD x none (some v)).cps.toList=x.cps.toList.take v.toNat:=by
 rw[fG]
 have e:HT.fb x.length x.length (some v)=min v.toNat x.length:=by
  show(if v<0 then _ else _)=_;rw[bq oo]
 have e0:HT.fb x.length 0 none=0:=rfl;have lx:x.cps.toList.length=x.length:=ag;rw[e,e0,EN,Nat.sub_zero];rcases Nat.le_total v.toNat x.length with h1|h1
 ·rw[AZ h1]
 rw[Nat.min_eq_right h1,<- lx,bS,fe oo]
section
variable{l:Expr}{t:FL}
theorem Gz(h:X.K=K:=by rfl):J_ X (L7 K):=h ▸ bB
theorem jX(h:X.K=K:=by rfl):J_ X (L6 K):=h ▸ aJ
def Ow(K:W.Frag):List V->Hp->VK->Prop:=fun xs H Q=>∃ p ys,xs=[.ref p]/\(SqL K H p ys\/SqT K H p ys)/\Q (.int ys.length) H
theorem vm(h:X.K=K:=by rfl):dN X (.builtin "len") (Ow K):=h ▸ aW
theorem Bd(h:X.K=K:=by rfl):iX X (compareOp .In) (Rv K false):=h ▸ fQ
theorem jg{k:Nat}(hK:X.K=K)(hc:X.calm=true)(h:LF X es t)
  (hn:(assignEach es X.env).length=n:=by rfl) (nB:(assignEach es X.env).findIdx? (·.1)=none:=by rfl):PG X (.Tuple es k pos) (Lz K n t):=hK ▸ mj hc h hn nB
variable{o:Expr}{ta:TA}{T id:String}{r:V->List V->Hp->VK->Prop}
theorem Dn(hK:X.K=K) (pa:PlainAttrs T) (slot:Slot T name id) (we:typeOf (.builtin id)=pure (.type "method_descriptor")) (hm:sC X id r) (ho:PE X o to) (ha:PA X (e::es) ta)
  (l0:attributeBase o name X.env (eval o X.env)=eval o X.env:=by rfl)
  (AR:((backTo fq (starEach (e::es) X.env)).all (fun x=>!x.1)&&(backToKw fq (keywordEach [] X.env)).all (fun x=>x.1.isSome)
   && decide ((e::es).length+([]:List Keyword).length+(if ([]:List Keyword).isEmpty then 0 else 1)<30))=true:=by rfl)
  (og:(apos.endLine==fq.line)=true:=by rfl) (hs:starEach (e::es) X.env=(false,eval e X.env):: starEach es X.env:=by rfl) (n_:(backTo fq (starEach es X.env)).any (·.1)=false:=by rfl):
  PE X (.Call (.Attribute o name apos) (e::es) [] fq) (UP K T r to ta):=hK ▸ bY pa slot we hm ho ha l0 AR og hs n_
end
end L2
namespace Bt
open PySem
theorem len:bootBuiltins "len"=some (.builtin "len"):=by decide +kernel
theorem max:bootBuiltins "max"=some (.builtin "max"):=by decide +kernel
theorem min:bootBuiltins "min"=some (.builtin "min"):=by decide +kernel
theorem sum:bootBuiltins "sum"=some (.builtin "sum"):=by decide +kernel
theorem sorted:bootBuiltins "sorted"=some (.builtin "sorted"):=by decide +kernel
theorem all:bootBuiltins "all"=some (.builtin "all"):=by decide +kernel
theorem isinstance:bootBuiltins "isinstance"=some (.builtin "isinstance"):=by decide +kernel
theorem int:bootBuiltins "int"=some (.type "int"):=by decide +kernel
theorem str:bootBuiltins "str"=some (.type "str"):=by decide +kernel
theorem bool:bootBuiltins "bool"=some (.type "bool"):=by decide +kernel
theorem list:bootBuiltins "list"=some (.type "list"):=by decide +kernel
theorem tuple:bootBuiltins "tuple"=some (.type "tuple"):=by decide +kernel
theorem enumerate:bootBuiltins "enumerate"=some (.type "enumerate"):=by decide +kernel
end Bt
namespace L2
open PySem PySem.Spec PyProof.Rows
section
variable{k:Nat}{E:XK}{o:Expr}{t:TA}{id T:String}{r:List V->Hp->VK->Prop}
theorem af(i:Nat) (hN:X.N[i]?=some x:=by kernel_rfl) (hv:X.env.scope.names.lookup x=some .local:=by kernel_rfl) (hd:(x==("__debug__":Str))=false:=by kernel_rfl) (tj:(x==("__classdict__":Str))=false:=by kernel_rfl):
  PE X (.Name x pos) (Cf i):=vQ hN (.inl hv) hd tj
theorem g5(i:Nat) (hN:X.N[i]?=some x:=by kernel_rfl) (hv:X.env.scope.names.lookup x=some .cell:=by kernel_rfl) (hd:(x==("__debug__":Str))=false:=by kernel_rfl) (tj:(x==("__classdict__":Str))=false:=by kernel_rfl):
  PE X (.Name x pos) (Cf i):=vQ hN (.inr (.inl hv)) hd tj
theorem g6(i:Nat)(hN:X.N.Nodup)(hi:X.N[i]?=some x:=by kernel_rfl)(hx:X.env.scope.names.lookup x=some .local:=by kernel_rfl):PG X (.Name x pos) (lA i):=tE hN hi (.inl hx) (.inr hx)
theorem eT(i:Nat)(hN:X.N.Nodup)(he:PE X e te)(hi:X.N[i]?=some x:=by kernel_rfl)(hx:X.env.scope.names.lookup x=some .local:=by kernel_rfl)(hs:swapsWith e (some (.Name x pos')) pos.line X.env=pure false:=by rfl):
  PS X (.Assign [.Name x pos'] e pos) (Ai te (lA i)):=iM hN hi (.inl hx) he hs (.inr hx)
theorem DM(i:Nat)(hN:X.N.Nodup)(he:PE X e te)(hi:X.N[i]?=some x:=by kernel_rfl)(hx:X.env.scope.names.lookup x=some .cell:=by kernel_rfl)(hf:X.fn x=true:=by kernel_rfl)(hs:swapsWith e (some (.Name x pos')) pos.line X.env=pure false:=by kernel_rfl):
  PS X (.Assign [.Name x pos'] e pos) (Ai te (lA i)):=iM hN hi (.inr hx) he hs (.inl hf)
theorem _L(i:Nat){op:Operator}(hN:X.N.Nodup)(he:PE X e te)(ho:Uw X op ti)(hi:X.N[i]?=some x:=by kernel_rfl)(hx:X.env.scope.names.lookup x=some .local:=by kernel_rfl):
  PS X (.AugAssign (.Name x pos') op e pos) (LC i te ti):=CK hN hi (.inl hx) he ho (.inr hx)
theorem Ox(F:fF X.prog X.w X.K X.mg X.base CX k f fd ps sp)(hr:eW k X.A)(hm:X.mg x=some (.ref f))(hk:W.keepIn X.K (.ref f)=true)(hb:Binds X.K fd ps [])(hx:dM CX X E)(ha:PA X (e::es) t)
  (hg:X.env.scope.names.lookup x=some .globalImplicit:=by kernel_rfl) (kg:(x==("__debug__":Str))=false:=by kernel_rfl) (he:starEach (e::es) X.env=(false,eval e X.env):: starEach es X.env:=by rfl) (gI:(backTo pos (starEach es X.env)).any (·.1)=false:=by rfl):
  PE X (.Call (.Name x p) (e::es) [] pos) (Av sp [] E t):=pW F hr hg hm hk hb .nil hx ha kg he gI
theorem aZ(hc:dN X (.builtin id) r) (hm:X.mg x=none) (hv:bootBuiltins x=some (.builtin id)) (ha:PA X (e::es) t) (hg:X.env.scope.names.lookup x=some .globalImplicit:=by kernel_rfl) (hn:(x==("__name__":Str))=false:=by kernel_rfl) (kg:(x==("__debug__":Str))=false:=by kernel_rfl)
  (he:starEach (e::es) X.env=(false,eval e X.env):: starEach es X.env:=by rfl) (gI:(backTo pos (starEach es X.env)).any (·.1)=false:=by rfl):PE X (.Call (.Name x p) (e::es) [] pos) (PD r t):=vY hc hg hm hv ha (by simpa using hn) kg he gI
theorem dj(hc:dN X (.type T) r) (hm:X.mg x=none) (hv:bootBuiltins x=some (.type T)) (ha:PA X (e::es) t) (hg:X.env.scope.names.lookup x=some .globalImplicit:=by kernel_rfl) (hn:(x==("__name__":Str))=false:=by kernel_rfl) (kg:(x==("__debug__":Str))=false:=by kernel_rfl)
  (he:starEach (e::es) X.env=(false,eval e X.env):: starEach es X.env:=by rfl) (gI:(backTo pos (starEach es X.env)).any (·.1)=false:=by rfl):PE X (.Call (.Name x p) (e::es) [] pos) (PD r t):=uz hc hg hm hv ha (by simpa using hn) kg he gI
theorem jO(hm:X.mg x=none) (hv:bootBuiltins x=some u) (hr:RelV v u) (hg:X.env.scope.names.lookup x=some .globalImplicit:=by kernel_rfl) (hn:(x==("__name__":Str))=false:=by kernel_rfl) (kg:(x==("__debug__":Str))=false:=by kernel_rfl):
  PE X (.Name x pos) (tC v):=JS hg hm hv hr (by simpa using hn) kg
theorem fH(hm:X.mg x=some u) (hr:RelV v u) (hg:X.env.scope.names.lookup x=some .globalImplicit:=by kernel_rfl) (kg:(x==("__debug__":Str))=false:=by kernel_rfl):PE X (.Name x pos) (tC v):=JR hg hm hr kg
theorem gw{a:Expr} (hm:X.mg "range"=none) (ha:PA X [a] t) (hg:X.env.scope.names.lookup ("range":Str)=some .globalImplicit:=by kernel_rfl) (hs:starEach [a] X.env=[(false,eval a X.env)]:=by rfl):PI X tg (.Call (.Name "range" p) [a] [] pos) (Jl t):=CP hg hm ha hs
end
structure Q7(P:Program)(w:World)(outer:List Env)(H H':Hp)(s s':Shared)(a C:Addr):Prop where
 os:s'.os=s.os
 bare:AllBare s'.gens
 un:Un (iq outer) [] H H' s.heap s'.heap
 hok:kK P w H' s'.heap
 free:H' a=none
 fl:∃(B:Heap)(a0:Value),Heap.FlyingW B outer a (.ref C) a0 s'.heap/\(∀ b o,s.heap.get? b=some o->H b=none->b∉iq outer->B.get? b=some o)/\(∀ b o,s.heap.get? b=some o->b∉iq outer->∃ o',B.get? b=some o')/\∀ b,H' b≠none->∃ o,s'.heap.get? b=some o/\B.get? b=some o
def CX1(P:Program)(w:World):r_:=fun outer H s E e s'=>∃ a C H',e=.ref a/\Q7 P w outer H H' s s' a C/\E (.ref C) none H'
theorem uE(x:kK P w H h)(e:H b≠none):∃ o,h.get? b=some o:=by
 cases q:H b with
 |none=>exact absurd q e
 | some u =>
  have z:=x b u q;cases u with
  |lst xs=>obtain⟨_,_,_,_,e⟩:=z;exact⟨_,e⟩
  |tup xs=>obtain⟨_,_,_,o,e,_⟩:=z;exact⟨_,e⟩
  |dK kvs=>obtain⟨_,_,_,_,o,_,_,e,_⟩:=z;exact⟨_,e⟩
  |dT kvs=>obtain⟨_,_,_,_,o,_,_,e,_⟩:=z;exact⟨_,e⟩
  |set S n=>obtain⟨o,_,_,_,e,_⟩:=z;exact⟨_,e⟩
  |ins C dx fs=>obtain⟨_,_,_,e,_⟩:=z;exact⟨_,e⟩
  |own y=>obtain⟨_,e⟩:=z;exact⟨_,e⟩
  |xd fs=>obtain⟨_,⟨_,_,_,e,_⟩,_⟩:=z;exact⟨_,e⟩
  |oq lo hi=>obtain⟨_,_,_,e⟩:=z;exact⟨_,e⟩
  |rX ob v=>obtain⟨e,_⟩:=z;exact⟨_,e⟩
  | BB ps =>
   have z:h.get? b=some _:=z;exact⟨_,z⟩
  | met f y =>
   have z:h.get? b=some _:=z;exact⟨_,z⟩
  |ext φ=>obtain⟨_,⟨_,e⟩,_⟩:=z;exact⟨_,e⟩
theorem wF{fr:List Addr}{H0:Hp}{h0:Heap}(u:Un fr [] H0 H1 h0 h1)(keep:∀ b o,h1.get? b=some o->H1 b=none->b∉fr->h0.get? b=some o->h2.get? b=some o)(slot:∀ b o,h1.get? b=some o->H1 b=none->b∈fr->∃ sl,h2.get? b=some { o with slots:=sl })(free:∀ b,H1 b=none->(∃ o,h1.get? b=some o)->H2 b=none)(there:∀ b o,h0.get? b=some o->∃ o',h2.get? b=some o')(b9:∀ b xs,H1 b=some (.tup xs)->H2 b=some (.tup xs))(kL:∀ b o x,H1 b=some (.rX o x)->H2 b=some (.rX o x))(kX:∀ b ps,H1 b=some (.BB ps)->∃ more,H2 b=some (.BB (ps++more))):Un fr [] H0 H2 h0 h2 where
 keep:=fun b o e n hb hx=>keep b o (u.keep b o e n hb hx) (u.free b o e n hx) hb e
 slot:=fun b o e n hb hx=>by
  obtain⟨sl,e1⟩:=u.slot b o e n hb hx;obtain⟨GY,e2⟩:=slot b _ e1 (u.free b o e n hx) hb;exact⟨GY,e2⟩
 free:=fun b o e n hx=>by
  obtain⟨o',e1⟩:=u.there b o e hx;exact free b (u.free b o e n hx) ⟨o',e1⟩
 there:=fun b o e hx=>there b o e
 b9:=fun b xs e=>b9 b xs (u.b9 b xs e)
 kL:=fun b o x e=>kL b o x (u.kL b o x e)
 kX:=fun b ps e=>by
  obtain⟨m1,e1⟩:=u.kX b ps e;obtain⟨m2,e2⟩:=kX b _ e1;exact⟨m1++m2,by rw[e2,Array.append_assoc]⟩
section
variable{E:XK}
theorem GC{e:Addr}{Q:Unit->Shared->Prop}(I:Inv (bU CX P w K mg base N qual scope f cd A outer s H E) pins σ H1 s1)(hx:Heap.MadeExcOf s1.heap h' e (.ref C) vs)(hQ:∀ h2,Q7 P w outer H H1 s { s1 with heap:=h2 } e C->Q () { s1 with heap:=h2 }): wpAny (model P w) (bU CX P w K mg base N qual scope f cd A outer s H E).A (leaving (bU CX P w K mg base N qual scope f cd A outer s H E).env (.ref e)) Q EE { s1 with heap:=h' }:=by
 have fm:∀ b∈iq (bU CX P w K mg base N qual scope f cd A outer s H E).stack,s1.heap.get? b≠none:=fun b hb=>by
  obtain⟨_,o,ho,_⟩:=I.stack.mem hb;rw[ho];exact fun z=>by cases z
 have P5:∀ b o,s1.heap.get? b=some o->b∉iq (bU CX P w K mg base N qual scope f cd A outer s H E).stack -> (W.hideAll s1.heap (iq (bU CX P w K mg base N qual scope f cd A outer s H E).stack)).get? b=some o:=fun b o e hb=>W.hideAll_get _ e hb
 have hl:s1.heap.FunFrames (W.hideAll s1.heap (iq (bU CX P w K mg base N qual scope f cd A outer s H E).stack)) (bU CX P w K mg base N qual scope f cd A outer s H E).stack :=
  W.funFrames_hide I.stack fun env he b hb=>fo.mpr ⟨env,he,hb⟩
 refine wpAny_leaves_madeW (base:=W.hideAll s1.heap (iq (bU CX P w K mg base N qual scope f cd A outer s H E).stack)) (h:=s1.heap) I.ok.frames rfl (fun b o q=>W.of_hideAll _ q) hl hx fun h2 t fl tup hnt ri=>hQ h2 ?_
 have keepB:∀ b o,s1.heap.get? b=some o->b∉iq (bU CX P w K mg base N qual scope f cd A outer s H E).stack -> h2.get? b=some o:=fun b o e hb=>fl.1 b o (P5 b o e hb)
 have below:∀ b o,s.heap.get? b=some o->b∉iq outer->b∉iq (bU CX P w K mg base N qual scope f cd A outer s H E).stack:=fun b o e hb z=>by
  rcases av.mp (I.k6 b z)with q|q
  ·have h1:=ay e
   rw[q]at h1;exact absurd (a_ h1 I.ok.above) (cK _)
  exact hb q
 have FD:∀ b∈iq (bU CX P w K mg base N qual scope f cd A outer s H E).stack,∀ o,s1.heap.get? b=some o->∃ sl,h2.get? b=some { o with slots:=sl }:=fun b hb o e=>by
  obtain⟨_,o',ho,hd⟩:=I.stack.mem hb;rw[e]at ho;cases ho;exact ri b o (hx.keeps b o e) hd
 have sub:∀ b∈iq outer,b∈iq (bU CX P w K mg base N qual scope f cd A outer s H E).stack:=fun b hb=>by
  show b∈iq (_::outer);unfold iq at hb ⊢;obtain⟨env,he,hf⟩:=fo.mp hb;exact fo.mpr ⟨env,k8 _ he,hf⟩
 have Cc:∀ b,H1 b≠none->∃ o,h2.get? b=some o/\(W.hideAll s1.heap (iq (bU CX P w K mg base N qual scope f cd A outer s H E).stack)).get? b=some o:=fun b hb=>by
  obtain⟨o,ho⟩:=uE I.hok hb;have nb:b∉iq (bU CX P w K mg base N qual scope f cd A outer s H E).stack:=fun z=>hb (I.kD b z)
  exact⟨o,keepB b o ho nb,P5 b o ho nb⟩
 refine⟨I.os,I.bare,wF I.base (fun b o e _ hb e0=>keepB b o e (below b o e0 hb)) (fun b o e _ hb=>FD b (sub b hb) o e) (fun b n _=>n) (fun b o e=>?_) (fun _ _ q=>q) (fun _ _ _ q=>q) (fun b ps q=>⟨#[],by rw[q];simp⟩),fun b o q=>?_,?_,_,_,fl,fun b o e n hb=>?_,fun b o e hb=>?_,Cc⟩
 ·obtain⟨o',e1⟩:=I.base.there b o e (by show b∉[];simp)
  by_cases hb:b∈iq (bU CX P w K mg base N qual scope f cd A outer s H E).stack
  ·obtain⟨sl,e2⟩:=FD b hb o' e1
   exact⟨_,e2⟩
  exact⟨o',keepB b o' e1 hb⟩
 ·refine(I.hok b o q).stay (fun c u hc e=>?_) (fun _ z=>z) fun _ _ z=>z
  have sx:H1 c≠none:=by
   rcases hc with rfl|hc
   ·rw[q];exact fun z=>by cases z
   rw[hc];exact fun z=>by cases z
  exact keepB c u e fun z=>sx (I.kD c z)
 ·cases q:H1 e with
  |none=>rfl
  | some u =>
   obtain⟨o,ho⟩:=uE I.hok (b:=e) (by rw[q];exact fun z=>by cases z);rw[hx.new]at ho;cases ho
 ·have e1:=I.base.keep b o e n hb (by show b∉[];simp)
  exact P5 b o e1 (below b o e hb)
 obtain⟨o',e1⟩:=I.base.there b o e (by show b∉[];simp);exact⟨o',P5 b o' e1 (below b o e hb)⟩
theorem Mt{e:Addr}{Q:Unit->Shared->Prop}(I:Inv (bU CX P w K mg base N qual scope f cd A outer s H E) pins σ H1 s1)(F:Q7 P w (bU CX P w K mg base N qual scope f cd A outer s H E).stack H1 H2 s1 s2 e C)(hQ:∀ h2,Q7 P w outer H H2 s { s2 with heap:=h2 } e C->Q () { s2 with heap:=h2 }): wpAny (model P w) (bU CX P w K mg base N qual scope f cd A outer s H E).A (leaving (bU CX P w K mg base N qual scope f cd A outer s H E).env (.ref e)) Q EE s2:=by
 obtain⟨Lo,oT,oy,xh,FE,B,a0,Fs,nB,DV,wm⟩:=F;refine wpAny_leaves_onW I.ok.frames rfl Fs fun h2 fl ri=>hQ h2 ?_
 have below:∀ b o,s.heap.get? b=some o->b∉iq outer->b∉iq (bU CX P w K mg base N qual scope f cd A outer s H E).stack:=fun b o e hb z=>by
  rcases av.mp (I.k6 b z)with q|q
  ·have h1:=ay e
   rw[q]at h1;exact absurd (a_ h1 I.ok.above) (cK _)
  exact hb q
 have sub:∀ b∈iq outer,b∈iq (bU CX P w K mg base N qual scope f cd A outer s H E).stack:=fun b hb=>by
  show b∈iq (_::outer);unfold iq at hb ⊢;obtain⟨env,he,hf⟩:=fo.mp hb;exact fo.mpr ⟨env,k8 _ he,hf⟩
 have FD:∀ b∈iq (bU CX P w K mg base N qual scope f cd A outer s H E).stack,∀ o,s1.heap.get? b=some o->∃ sl,h2.get? b=some { o with slots:=sl }:=fun b hb o e=>by
  obtain⟨sl,e1⟩:=oy.slot b o e (I.kD b hb) hb oz;obtain⟨_,o',ho,hd⟩:=I.stack.mem hb;rw[e]at ho;cases ho;obtain⟨GY,e2⟩:=ri b _ e1 hd;exact⟨GY,e2⟩
 have keepB:∀ b o,s1.heap.get? b=some o->H1 b=none->b∉iq (bU CX P w K mg base N qual scope f cd A outer s H E).stack -> h2.get? b=some o:=fun b o e n hb=>fl.1 b o (nB b o e n hb)
 have Cc:∀ b,H2 b≠none->∃ o,s2.heap.get? b=some o/\h2.get? b=some o/\B.get? b=some o:=fun b hb=>by
  obtain⟨o,e1,e2⟩:=wm b hb;exact⟨o,e1,fl.1 b o e2,e2⟩
 refine⟨Lo.trans I.os,oT,wF I.base (fun b o e n hb e0=>keepB b o e n (below b o e0 hb)) (fun b o e _ hb=>FD b (sub b hb) o e) (fun b n ⟨o,e⟩=>oy.free b o e n oz) (fun b o e=>?_) (fun b xs q=>oy.b9 b xs q) (fun b o x q=>oy.kL b o x q) (fun b ps q=>oy.kX b ps q),fun b o q=>?_,FE,B,a0,fl,fun b o e n hb=>?_,fun b o e hb=>?_,fun b hb=>?_⟩
 ·obtain⟨o',e1⟩:=I.base.there b o e (by show b∉[];simp)
  by_cases hb:b∈iq (bU CX P w K mg base N qual scope f cd A outer s H E).stack
  ·obtain⟨sl,e2⟩:=FD b hb o' e1
   exact⟨_,e2⟩
  obtain⟨o2,e2⟩:=DV b o' e1 hb;exact⟨o2,fl.1 b o2 e2⟩
 ·refine(xh b o q).stay (fun c u hc e=>?_) (fun _ z=>z) fun _ _ z=>z
  have sx:H2 c≠none:=by
   rcases hc with rfl|hc
   ·rw[q];exact fun z=>by cases z
   rw[hc];exact fun z=>by cases z
  obtain⟨o',e1,e2,_⟩:=Cc c sx;have e:s2.heap.get? c=some u:=e;rw[e1]at e;cases e;exact e2
 ·have e1:=I.base.keep b o e n hb (by show b∉[];simp)
  exact nB b o e1 (I.base.free b o e n (by show b∉[];simp)) (below b o e hb)
 ·obtain⟨o',e1⟩:=I.base.there b o e (by show b∉[];simp)
  exact DV b o' e1 (below b o e hb)
 obtain⟨o,_,e2,e3⟩:=Cc b hb;exact⟨o,e2,e3⟩
end
def Raises(X:Cx)(E:XK):Prop:=∀(pins:List (Addr×Obj))(σ:St)(H:Hp)(s:Shared)(h':Heap)(e C:Addr)(vs:List Value),Inv X pins σ H s->Heap.MadeExcOf s.heap h' e (.ref C) vs->E (.ref C) none H->X.xe (.ref e) { s with heap:=h' }
section
variable{E:XK}
theorem eQ:Raises (bU (CX1 P w) P w K mg base N qual scope f cd A outer s H E) E:=fun pins σ H1 s1 h' e C vs I hx q=>GC I hx fun h2 F=>⟨e,C,H1,rfl,F,q⟩
theorem bx:dM (CX1 P w) (bU (CX1 P w) P w K mg base N qual scope f cd A outer s H E) E:=fun pins σ H1 s1 e s2 I ⟨a,C,H2,ea,F,q⟩=>by
 subst ea;exact Mt I F fun h2 F2=>⟨a,C,H2,rfl,F2,q⟩
theorem i7:PassesOwn (model (bU (CX1 P w) P w K mg base N qual scope f cd A outer s H E).prog (bU (CX1 P w) P w K mg base N qual scope f cd A outer s H E).w) (bU (CX1 P w) P w K mg base N qual scope f cd A outer s H E).A (bU (CX1 P w) P w K mg base N qual scope f cd A outer s H E).env (bU (CX1 P w) P w K mg base N qual scope f cd A outer s H E).xe :=
 PassesOwn.leaving
end
theorem aM:dM (CX1 P w) X E0:=fun _ _ _ _ _ _ _ ⟨_,_,_,_,_,q⟩=>q.elim
theorem xl.rf{k:Nat}(F:xl K x qual st f fd)(S:b_ N ps (aV st))(len:∀ vs H Q E,sp vs H Q E->vs.length=ps.length)(oi:∀(g9:Value)(A:Around)(outer:List Env)(s:Shared)(H:Hp)(vs:List V)(Q:VK)(E:XK),eW k (A.deeper (envOfC qual (aV st) s.heap.objs.size f g9))->sp vs H Q E -> ∃ t,tF (bU (CX1 P w) P w K mg base N qual (aV st) f g9 A outer s H E) (dW st) t/\t { nx:=fun _ H'=>Q .non H',rt:=Q } (start N vs) H):fF P w K mg base (CX1 P w) (k+1) f fd ps sp:=by
 obtain⟨oc,od,kV,doc,pm,an,g9,ct,HG,rfl,lk,tj⟩:=F.ex;exact Ol lk tj S len fun A outer s H vs Q E hr BO=>oi g9 A outer s H vs Q E hr BO
theorem xl.KA{k:Nat}(F:xl K x qual st f fd)(S:b_ N ps (aV st))(oi:∀(g9:Value)(A:Around)(outer:List Env)(s:Shared)(H:Hp)(vs:List V)(Q:VK)(E:XK),eW k (A.deeper (envOfC qual (aV st) s.heap.objs.size f g9))->sp vs H Q E ->
   ∃ t,tF (bU (CX1 P w) P w K mg base N qual (aV st) f g9 A outer s H E) (dW st) t/\t { nx:=fun _ H'=>Q .non H',rt:=Q } (start N vs) H) (len:∀ vs H Q E,sp vs H Q E->vs.length=ps.length:=by intro _ _ _ _ h;cases h;subst_vars;rfl):fF P w K mg base (CX1 P w) (k+1) f fd ps sp:=F.rf S len oi
theorem xl.eK{k:Nat}(F:xl K x qual st f fd)(S:b_ N ps (aV st))(oi:N.Nodup->∀(g9:Value)(A:Around)(outer:List Env)(s:Shared)(H:Hp)(vs:List V)(Q:VK)(E:XK),eW k (A.deeper (envOfC qual (aV st) s.heap.objs.size f g9))->sp vs H Q E ->
   ∃ t,tF (bU (CX1 P w) P w K mg base N qual (aV st) f g9 A outer s H E) (dW st) t/\t { nx:=fun _ H'=>Q .non H',rt:=Q } (start N vs) H) (len:∀ vs H Q E,sp vs H Q E->vs.length=ps.length:=by intro _ _ _ _ h;cases h;subst_vars;rfl):fF P w K mg base (CX1 P w) (k+1) f fd ps sp:=F.KA S (oi S.nd) len
abbrev tx:List Value:=[.type "ValueError",.type "Exception",.type "BaseException",.type "object"]
theorem Ka{Yz:List Value}(X:K.In h)(q:W.excIn K C Yz newId=true): ∃ bm N nm qn bs hdct sn sub ab col dd k0 k1 k2 k3 k5 mN,h.get? C=some (excClassObj nm qn C N bs bm hdct sn sub ab col dd k0 k1 k2 k3 k5 newId)/\h.Ns N mN/\mN "__init__"=none/\OwnTail h Yz bm:=by
 unfold W.excIn at q
 split at q
 ·rename_i dd cd sl ho
  split at q
  ·rename_i C' bm k0 k1 k2 k3 n k5 hm hs
   simp only[dE,i',Bool.not_eq_true']at q;obtain⟨⟨⟨⟨⟨e1,e2⟩,AS⟩,ht⟩,hok⟩,Qb⟩:=q;subst e1 e2;obtain⟨nm,bs,mro,ns,qn,hd,sn,sub,ab,col,del⟩:=cd;dsimp only at hm AS hok Qb;subst hm AS
   have hsl:sl = #[k0,k1,k2,k3,some (.builtin n),k5]:=by
    obtain⟨l⟩:=sl;simp only at hs;rw[hs]
   subst hsl;exact⟨bm,ns,nm,qn,bs,hd,sn,sub,ab,col,dd,k0,k1,k2,k3,k5,_,X _ _ ho,.of_isNs (W.isNs_of_in X hok),W.nsMap_none_of_in X hok Qb,W.tail_of_in X ht⟩
  cases q
 cases q
def Mu(C:Addr)(E:XK)(t:TA):TS:=fun _ σ H=>t σ H fun vs H1=>vs.length<=sizeLine/\E (.ref C) none H1
section
variable{E:XK}{np:Pos}{t:TA}
theorem dF(hR:Raises X E) (hc:X.calm=true) (hm:X.mg x=some (.ref C)) (q:W.excIn X.K C tx "ValueError.__new__"=true) (ha:PA X (e::es) t)
  (hg:X.env.scope.names.lookup x=some .globalImplicit:=by kernel_rfl) (kg:(x==("__debug__":Str))=false:=by kernel_rfl)
  (he:starEach (e::es) X.env=(false,eval e X.env):: starEach es X.env:=by rfl) (gI:(backTo fq (starEach es X.env)).any (·.1)=false:=by rfl):
  PS X (.Raise (some (.Call (.Name x np) (e::es) [] fq)) none pos) (Mu C E t):=by
 intro pins s σ H D I h;obtain⟨tl,N,nm,qn,bs,hdct,sn,sub,ab,col,dd,k0,k1,k2,k3,k5,mN,hC,hN,Qb,T⟩:=Ka I.mod.E5 q
 refine wpAny_Raise_call_subT (C:=C) (nm:=nm) (q:=qn) (N:=N) (bs:=bs) (bm:=tl) (hdct:=hdct) (sn:=sn) (sub:=sub) (ab:=ab) (col:=col) (dd:=dd) (k0:=k0) (k1:=k1) (k2:=k2) (k3:=k3) (k5:=k5)
  PySem.F.excBase_ValueError (mN:=mN) (T.hasType PySem.F.excBase_ValueError.hasBase) (I.ok.hd hc) (by rw[he];show(false||(backTo fq (starEach es X.env)).any (·.1))=false;rw[gI];rfl) Qb (je I hg hm ⟨rfl,?_⟩ kg)
 have QL:=ha fq pins s σ H _ I h;rw[he]at QL ⊢;refine uk (df QL (fun us s2 h2=>?_) fun _ _ y=>y);obtain⟨vs,H2,I2,rv,hl,hE⟩:=h2;refine⟨Z,by rw[<- rv.length];exact hl,I2.bk _ _ hC,hN.keeps I2.bk,T.keeps I2.bk,fun h' e' hx=>hR pins σ H2 s2 h' e' C us I2 hx hE⟩
end
def XP(X:Cx)(pins:List (Addr×Obj))(σ:St)(EX:XK):Value->Shared->Prop:=fun e s'=>∃ H1 s1,Inv X pins σ H1 s1/\CX1 X.prog X.w X.stack H1 s1 EX e s'
abbrev LB:=St->Hp->VK->XK->Prop
abbrev JU:=Ends->XK->St->Hp->Prop
def Pe(X:Cx)(e:Expr)(t:LB):Prop :=
 ∀(pins:List (Addr×Obj))(s:Shared)(σ:St)(H:Hp)(Q:VK)(EX:XK),Inv X pins σ H s->t σ H Q EX->wpAny (model X.prog X.w) X.A (eval e X.env) (EP X pins σ Q) (XP X pins σ EX) s
def Uv(X:Cx)(st:Stmt)(t:JU):Prop :=
 ∀(pins:List (Addr×Obj))(s:Shared)(σ:St)(H:Hp)(D:Ends)(EX:XK),Inv X pins σ H s->t D EX σ H->wpAny (model X.prog X.w) X.A (exec st X.env) (SP X pins D) (XP X pins σ EX) s
def Mv(X:Cx)(st:List Stmt)(t:JU):Prop :=
 ∀(pins:List (Addr×Obj))(s:Shared)(σ:St)(H:Hp)(D:Ends)(EX:XK),Inv X pins σ H s->t D EX σ H->wpAny (model X.prog X.w) X.A (execs st X.env) (SP X pins D) (XP X pins σ EX) s
def wG(sp:Sp)(dvs:List V)(t:TA):LB:=fun σ H Q EX=>t σ H fun vs H1=>sp (vs++dvs) H1 Q EX
section
variable{k:Nat}{o:Expr}{t:TA}
theorem Kc{Q:VK}{EX:XK}{vs:List V}(F:fF X.prog X.w X.K X.mg X.base (CX1 X.prog X.w) k f fd ps sp)(hr:eW k X.A)(hb:Binds X.K fd ps ds)(hd:Vals dvs ds)(I:Inv X pins σ H s)(r:Vals vs us)(h:sp (vs++dvs) H Q EX):wpAny (model X.prog X.w) X.A (call (.ref f) us) (EP X pins σ Q) (XP X pins σ EX) s:=by
 have r2:Vals (vs++dvs) (us++ds):=r.append hd;have hl:(us++ds).length=ps.length:=by rw[<- r2.length];exact F.len _ _ _ _ h
 refine wpAny_call (pz (F.run X.A X.stack s H ⟨us,[]⟩ (us++ds) (vs++dvs) Q EX hr I.JA (hb s us I.kIn hl) r2 h) fun r s' hq=>?_);cases r with
 |error e=>exact⟨H,s,I,hq⟩
 | ok fl =>
  cases fl with
  |ret u=>exact I.after hq
  |next=>exact False.elim hq
  |brk=>exact False.elim hq
  |cont=>exact False.elim hq
theorem GD(F:fF X.prog X.w X.K X.mg X.base (CX1 X.prog X.w) k f fd ps sp)(hr:eW k X.A)(hg:Gl X x)(hm:X.mg x=some (.ref f))(hk:W.keepIn X.K (.ref f)=true)(hb:Binds X.K fd ps ds)(hd:Vals dvs ds)
  (ha:PA X.RA (e::es) t) (kg:(x==("__debug__":Str))=false:=by decide) (he:starEach (e::es) X.env=(false,eval e X.env):: starEach es X.env:=by rfl) (gI:(backTo pos (starEach es X.env)).any (·.1)=false:=by rfl):
  Pe X (.Call (.Name x p) (e::es) [] pos) (wG sp dvs t):=by
 intro pins s σ H Q EX I h;refine ek (je I hg hm ?_ kg);refine pE (h₀:=X.base) I.ok.mod.E5 hk (df (ha pos pins s σ H _ (I.pe _) h) (fun us s1 ⟨vs,H1,I1,r,q⟩=>⟨I1.kIn,?_⟩) fun _ _ z=>False.elim z) he gI;exact Kc F hr hb hd I1.sF r q
def Mw(te:LB):JU:=fun D EX σ H=>te σ H (fun _ H1=>D.nx σ H1) EX
theorem GF{te:LB}(he:Pe X e te)(hs:swapsWith e none pos.line X.env=pure false:=by rfl):Uv X (.Expr e pos) (Mw te):=by
 intro pins s σ H D EX I h;exact wpAny_Expr_any (df (he pins s σ H _ EX I h) (fun v s1 ⟨x,H1,I1,r1,q1⟩=>⟨σ,H1,I1,q1⟩) fun _ _ z=>z) I.quiet hs
def Oz(i:Nat)(te:LB):JU:=fun D EX σ H=>te σ H (fun v H1=>D.nx (σ.set i (some v)) H1) EX
theorem Kd{te:LB}(hN:X.N.Nodup)(hi:X.N[i]?=some x)(hx:Loc X.env.scope x)(he:Pe X e te)(hs:swapsWith e (some (.Name x pos')) pos.line X.env=pure false:=by rfl)(hf:X.fn x=true\/X.env.scope.names.lookup x=some .local:=by first|exact .inl rfl|exact .inr rfl|assumption):
  Uv X (.Assign [.Name x pos'] e pos) (Oz i te):=by
 intro pins s σ H D EX I h;refine wpAny_Assign_Name (df (he pins s σ H _ EX I h) (fun v s1 ⟨y,H1,I1,r1,q1⟩=>?_) fun _ _ z=>z) hs;exact mQ I1 hN hi hx r1 (fun s2 I2=>⟨_,H1,I2,q1⟩) hf
theorem wH{t:JU}(h1:Uv X st t):Mv X [st] t:=by
 intro pins s σ H D EX I h;refine wpAny_execs_cons (df (h1 pins s σ H D EX I h) (fun f s1 q=>?_) fun _ _ z=>z);cases f with
 |next=>exact iO q
 |ret v=>exact q
 |brk=>exact q
 |cont=>exact q
end
def lU(K:W.Frag)(C:Addr):Option (List Value):=match K.lookup C with
 | some ⟨.type "type",_,.cls cd,sl⟩=>(match cd.mro,sl.toList with
  | .ref C'::bm,[_,_,_,_,some (.builtin _),_]=>if (C'==C && !cd.hasDel)=true then some bm else none
  |_,_=>none)
 |_=>none
theorem wI(X:K.In h)(q:lU K C=some bm): ∃ N nm qn bs hdct sn sub ab col dd k0 k1 k2 k3 k5 newId,h.get? C=some (excClassObj nm qn C N bs bm hdct sn sub ab col dd k0 k1 k2 k3 k5 newId):=by
 unfold lU at q
 split at q
 ·rename_i dd cd sl ho
  split at q
  ·rename_i C' OY k0 k1 k2 k3 n k5 hm hs
   split at q
   ·rename_i hc
    cases q;simp only[dE,i',Bool.not_eq_true']at hc;obtain⟨e1,AS⟩:=hc;subst e1;obtain⟨nm,bs,mro,ns,qn,hd,sn,sub,ab,col,del⟩:=cd;dsimp only at hm AS;subst hm AS
    have hsl:sl = #[k0,k1,k2,k3,some (.builtin n),k5]:=by
     obtain⟨l⟩:=sl;simp only at hs;rw[hs]
    subst hsl;exact⟨ns,nm,qn,bs,hd,sn,sub,ab,col,dd,k0,k1,k2,k3,k5,n,X _ _ ho⟩
   cases q
  cases q
 cases q
def under(K:W.Frag)(C M:Addr):Bool:=(lU K C).any fun bm=>(Value.ref C::bm).contains (.ref M)
def ff(K:W.Frag)(M:Addr):Bool:=(lU K M).any fun bm=>bm.contains (.type "BaseException")
abbrev Cx.iS(X:Cx)(e:Addr):Cx:={ X with A:=X.A.mark (some (.ref e)),calm:=false,xe:=fun _ _=>False }
theorem Cx.Ok.iS(ok:X.Ok)(e:Addr):(X.iS e).Ok :=
 ⟨ok.mod,ok.kind,ok.glob,ok.blt,ok.above,ok.inj,ok.has,ok.JJ,(fun z=>by cases z),ok.frames,ok.Kk,ok.QT,ok.bs,ok.AV,ok.sP,ok.xi,ok.l8,ok.EC⟩
theorem Inv.iS(I:Inv X pins σ H s)(e:Addr):Inv (X.iS e) pins σ H s:=⟨I.ok.iS e,I.os,I.bare,I.base,I.loc,I.cell,I.free,I.i8,I.pin,I.hok,I.len⟩
theorem Inv.uncaught{e:Addr}(I:Inv (X.iS e) pins σ H s)(ok:X.Ok):Inv X pins σ H s:=⟨ok,I.os,I.bare,I.base,I.loc,I.cell,I.free,I.i8,I.pin,I.hok,I.len⟩
theorem Inv.landed{B h6:Heap}(I:Inv X pins σ H1 s1)(rh:X.stack=X.env::X.outer)(os:s2.os=s1.os)(bare:AllBare s2.gens)(u:Un (iq X.stack) [] H1 H2 s1.heap s2.heap)(hok:kK X.prog X.w H2 s2.heap)(nB:∀ b o,s1.heap.get? b=some o->H1 b=none->b∉iq X.stack->B.get? b=some o)(DV:∀ b o,s1.heap.get? b=some o->b∉iq X.stack->∃ o',B.get? b=some o')(wm:∀ b,H2 b≠none->∃ o,s2.heap.get? b=some o/\B.get? b=some o)(fl:Heap.FlyingW B X.stack a (.ref C) a0 h6)(sm:s2.heap.UpToSlots h6):Inv X pins σ H2 { s2 with heap:=h6 }:=by
 have FD:∀ b∈iq X.stack,∀ o,s1.heap.get? b=some o->∃ sl,h6.get? b=some { o with slots:=sl }:=fun b hb o e=>by
  obtain⟨sl,e1⟩:=u.slot b o e (I.kD b hb) hb oz;obtain⟨_,o',ho,hd⟩:=I.stack.mem hb;rw[e]at ho;cases ho;obtain⟨GY,e2⟩:=sm b _ e1 hd;exact⟨GY,e2⟩
 refine I.FK (s':={ s2 with heap:=h6 }) (ch:=[]) os ⟨fun b o e n hb _=>fl.1 b o (nB b o e n hb),fun b o e _ hb _=>FD b hb o e,u.free,fun b o e _=>?_,u.b9,u.kL,u.kX⟩ (fun b o q=>?_) bare (fun b z=>absurd z oz)
 ·by_cases hb:b∈iq X.stack
  ·obtain⟨sl,e2⟩:=FD b hb o e
   exact⟨_,e2⟩
  obtain⟨o2,e2⟩:=DV b o e hb;exact⟨o2,fl.1 b o2 e2⟩
 refine(hok b o q).stay (fun c v hc e=>?_) (fun _ z=>z) fun _ _ z=>z
 have sx:H2 c≠none:=by
  rcases hc with rfl|hc
  ·rw[q];exact fun z=>by cases z
  rw[hc];exact fun z=>by cases z
 obtain⟨o',e1,e2⟩:=wm c sx;rw[e1]at e;cases e;exact fl.1 c _ e2
open PySem PySem.Spec PyProof.Rows PySem.W
structure ExC(K:W.Frag)(C:Addr):Prop where
 hg:W.findIn K (.ref C) "__getattribute__"=some (some (.builtin "BaseException.__getattribute__"))
 hh:W.findIn K (.ref C) "__getattr__"=some none
 ha:W.findIn K (.ref C) "__class__"=some (some (.builtin "object.__class__"))
 hn:W.specialIn K (.builtin "object.__class__") "__get__"=some (some (.builtin "getset_descriptor.__get__"))
 ht:W.takesIn K (.builtin "object.__class__")=some true
 hm:W.mroIn K C (.type "object")=some true
 hB:W.mroIn K C (.type "BaseException")=some true
 BS:W.hasDictIn K C=true
end L2
namespace L2
open PySem PySem.Spec PyProof.Rows
def OD(K:W.Frag):List V->Hp->VK->Prop:=fun xs H Q=>∃(p:Addr)(ns:List Int),xs=[.ref p]/\SqL K H p (ns.map V.int)/\0<ns.length/\∀ M,M∈ns->(∀ a∈ns,M<=a)->Q (.int M) H
theorem oK(hc:X.calm=true):dN X (.builtin "min") (OD X.K):=by
 intro pins s σ H xs us Q I r h;obtain⟨p,ns,rfl,hp,g7,q⟩:=h;obtain⟨u,rfl,ru⟩:=vals1 r;cases ru;obtain⟨its,rv,pl,hz⟩:=I.list hp;have hi:=intsAre_of rv;have hh:X.A.handled=none:=I.ok.hd hc;obtain⟨xs,e⟩:=hi.allInts.items
 have nE:ns=xs.toList.map (·.1):=by
  rw[<- hi.numsOf,<- x6,<- e]
 have hsz:0<xs.size:=by
  have h3:=g7;rw[nE,dS,ag]at h3;exact h3
 have hl:=pl.isList;rw[e]at hl;refine min_intList hh hl hsz fun v h' tk hv hk=>?_
 obtain⟨t,rfl⟩:=t5 hv;obtain⟨h1,h2⟩:=argBest_lt (numAt xs) (xs.size-1);refine⟨.int _,H,I.kept (t':=tk) hk,⟨t,Z⟩,q _ ?_ fun a ha=>?_⟩
 ·rw[nE,t4];exact getD_mem (by rw[dS,ag];exact oo)
 rw[nE]at ha;obtain⟨j,hj,rfl⟩:=mem_getD ha;rw[dS,ag]at hj;rw[<- t4];exact h2 j oo
theorem qw(ns:List Int):∀ k,k<=ns.length->preSum (fun i=>ns.getD i 0) k=(ns.take k).sum
 | 0,_=>by simp[preSum]
 | k+1,h=>by
  have h':k<ns.length:=oo
  rw[preSum,qw ns k oo,List.take_succ_eq_append_getElem h',A'];simp[List.getD,h']
theorem yN{x:V}(r:Vals xs us)(f:xs.all eZ=true)(e:us[j]?=some u):o_ x u=l9 (xs.getD j .non) x:=by
 induction r generalizing j with
 |nil=>simp at e
 | @cons y v ys vs rv t ih =>
  rw[js,dE]at f;cases j with
  |zero=>simp at e;subst e;simpa using rM rv f.1
  |succ j=>simpa using ih f.2 (by simpa using e)
theorem Do{β : Type}{M:Model}{Q:β->Shared->Prop}(f:Nat->β->Sem (ForInStep β))(n:Nat)(J:Nat->β->Shared->Prop)(b:β)
  (turn:∀ i b s,i<n->J i b s->wpAny M A (f i b) (fun r s'=>match r with | .yield b'=>J (i+1) b' s' | .done b'=>Q b' s') E s) (fin:∀ b s,J n b s->Q b s) (h:J 0 b s):wpAny M A (forIn [:n] b f) Q E s:=by
 rw[Std.Legacy.Range.forIn_eq_forIn_range']
 have key:∀(k i:Nat)(b:β)(s:Shared),i+k=n->J i b s->wpAny M A (forIn (List.range' i k 1) b f) Q E s:=by
  intro k
  induction k with
  | zero => intro i b s e hj;rw[List.range'_zero,List.forIn_nil];obtain rfl:i=n:=oo
            exact aI (fin _ _ hj)
  | succ k ih =>
   intro i b s e hj;rw[List.range'_succ,List.forIn_cons];refine ae (df (turn i b s oo hj) (fun r s' hr=>?_) fun _ _ z=>z);cases r with
   |done b'=>exact aI hr
   |yield b'=>exact ih (i+1) b' s' oo hr
 have e:(Std.Legacy.Range.size [:n])=n:=by simp[Std.Legacy.Range.size]
 rw[e];exact key n 0 b s oo h
theorem Be(l:Addr)(items:Array Value)(n:Nat)(dd:Option Addr)(sl:Array (Option Value))(x:Value)(e:Value->Bool)(j:Nat)(hj:j<items.size)(hit:e items[j]=true)(ow:∀ m (hm:m<items.size),m<j->e items[m]=false): Meets (Builtin.«tuple.index» ⟨[.ref l,x],[]⟩) (fun A R s=>s.heap.get? l=some { cls:=.type "tuple",dict:=dd,data:=.seq items n,slots:=sl }/\(∀ y,y∈items->SeqAt.EqAt A.in1 s y x (e y))/\R (.ok (.ret (.int j s.toks))) { s with toks:=s.toks+1 }):=
 .of_wp fun prog w A R s h=>by
  obtain⟨hp,g,d,tk,os⟩:=s;obtain⟨hl,he,h⟩:=h
  wp_walk using dQ hl
  show wpAny _ _ (forIn [:min items.size items.size] _ _) _ _ _;rw[Nat.min_self];refine Do _ _ (fun i b s'=>b.1=none/\i<=j/\s'=⟨hp,g,d,tk,os⟩) _ (fun i b s' hi ⟨hb,hij,hs⟩=>?_) (fun b s' ⟨_,hij,_⟩=>absurd hj oo) ⟨rfl,mf _,rfl⟩;subst hs;have K':items[i]?=some items[i]:=Array.getElem?_eq_getElem hi;simp only[K'];refine ae (he _ (Array.getElem_mem hi) prog w _ _ ?_)
  by_cases Ss:i=j
  ·subst Ss
   rw[hit]
   wp_walk
   exact⟨_,Z,h⟩
  rw[ow i hi oo]
  wp_walk
  exact⟨Z,oo,Z⟩
inductive DJ(K:W.Frag)(y:V)(vs:List V)(H:Hp)(Q:VK):Prop
 |mk(p:Addr)(xs:List V)(x:V)(j:Nat)(_:y=.ref p)(_:vs=[x])(_:SqT K H p xs)(_:eZ x=true)(_:xs.all eZ=true)(_:j<xs.length)(_:l9 (xs.getD j .non) x=true)(_:(∀ m,m<j->l9 (xs.getD m .non) x=false))(_:Q (.int j) H)
theorem Dp:sC X "tuple.index" (DJ X.K):=by
 intro pins s σ H y vs v us Q I ry r h;obtain⟨p,xs,x,j,rfl,rfl,hp,fx,fs,hj,hit,ow,q⟩:=h;cases ry;obtain⟨u,rfl,ru⟩:=vals1 r;obtain⟨its,rv,pl,hz⟩:=I.tuple hp;obtain⟨⟨cls,dd,data,sl⟩,ho,hc,n,hd⟩:=pl;simp only at hc hd;subst hc hd;have hlen:=rv.length
 refine fv PySem.F.slot_tuple_index ⟨_,ho,rfl⟩ PySem.F.entry_tuple_index (PySem.F.args_tuple_index_2 _ _)
  (Be p its.toArray n dd sl u (o_ x) j (by simpa[hlen]using hj) ?_ ?_) ⟨ho,fun y hy=>iu ru fx rv fs y (by simpa using hy),⟨.int j,H,I.tok _,⟨_,rfl⟩,q⟩⟩
 ·rw[yN (x:=x) rv fs (j:=j) oz];exact hit
 intro m hm fE;rw[yN (x:=x) rv fs (j:=m) oz];exact ow m fE
theorem Inv.turns{p:Addr}(I:Inv X pins σ H s)(hf:∀ b∈fp,jf X pins H b)(k:∀ b u,b∉fp->s.heap.get? b=some u->h'.get? b=some u)(hp:s.heap.objs.size<=p)(new:eM X.prog X.w (upd H p o) h' p o):Inv X pins σ (upd H p o) { s with heap:=h',toks:=t' }:=by
 have hn:H p=none:=I.hok.fresh hp;have ne:∀ b u,H b=some u->b≠p:=fun b u e z=>by rw[z,hn]at e;cases e
 have nf:∀ b u,H b=some u->b∉fp:=fun b u e z=>by rw[(hf b z).1]at e;cases e
 have old:∀ b u,s.heap.get? b=some u->b≠p:=fun b u e=>b4 (a_ (ay e) hp)
 refine I.step (g':=s.gens) (d':=s.drawn) (ch:=fp) (fun b hb=>?_) (fun b u _ _ hc e _=>k b u hc e) (fun b u _ _ hc e _=>⟨u.slots,k b u hc e⟩) (fun b u _ e n=>by rw[aG (old b u e)];exact n)
  (fun b u hc e=>⟨u,k b u hc e⟩) (fun b xs e=>by rw[aG (ne _ _ e)];exact e) (fun b o' u e=>by rw[aG (ne _ _ e)];exact e) (fun b ps e=>⟨#[],by rw[aG (ne _ _ e),e];simp⟩) (fun m hm=>?_) (fun b u e=>?_) I.bare
 ·obtain⟨_,f1,_,f3,f4,f5⟩:=hf b hb
  exact⟨f3,f1,f4,f5⟩
 ·obtain⟨ob,es,ep,ho,r⟩:=hm
  exact⟨ob,es,ep,k _ ob (fun z=>(hf _ z).2.1 rfl) ho,r⟩
 by_cases hb:b=p
 ·subst hb
  rw[au]at e;cases e;exact new
 rw[aG hb]at e;refine(I.hok b u e).stay (fun c v hc q=>k c v ?_ q) (fun c q=>by rw[aG (ne _ _ q)];exact q) fun c xs q=>by rw[aG (ne _ _ q)];exact q
 rcases hc with z|z
 ·rw[z];exact nf b u e
 exact nf c _ z
def Ki(K:W.Frag)(a:Addr):It :=
 ⟨fun i H=>∃ xs x,SqL K H a xs/\xs[i]?=some x,fun i H x H'=>∃ p y,x=.ref p/\H p=none/\(∀ xs,SqL K H a xs->xs[i]?=some y)/\H'=upd H p (.tup [.int i,y]),fun i H=>∃ xs,SqL K H a xs/\xs.length<=i⟩
theorem Dq{x1}(a e it:Addr)(g7:e≠it):Turn P w K (.Tuple elts x1 pos) (Ki K a) [e,it] e (fun i h=>(∃ old,IsEnum h e it (i:Nat) old)/\h.IsListIter it a i) where
 mem:=by simp
 obj:=fun i h st b hb=>by
  obtain⟨⟨old,s1⟩,o,e1,c,d⟩:=st;rcases av.mp hb with rfl|hb
  ·exact⟨_,s1,fun v z=>by
    have z':Data.fields _=Data.cell v:=z
    cases z'⟩
  have q:b=it:=by simpa using hb
  subst q;exact⟨o,e1,fun v z=>by rw[d]at z;cases z⟩
 keep:=fun i h h' st k=>⟨⟨st.1.choose,k e oz _ st.1.choose_spec⟩,st.2.at fun o q=>k it oz o q⟩
 item:=by
  intro X hP hw hK hc i pins s σ H E I hf st hg;subst hP hw hK;obtain⟨xs,x,hq,hx⟩:=hg;obtain⟨its,rv,p,hz⟩:=I.list hq;obtain⟨u,hu,ru⟩:=rv.get hx;obtain⟨⟨old,he⟩,hit⟩:=st;refine wpAny_pyNext_enum_item he hit p.isList (x:=u) (by simpa using hu) g7 fun h' ho li tp sz kk=>?_
  refine⟨_,Z,wpAny_letOwnedTupleGo_enum (s:={ s with heap:=h',toks:=s.toks+1 }) ho fun h2 Sz sb=>?_⟩
  have fE:∀ b∈[e,it],b<s.heap.objs.size:=fun b hb=>by
   rcases av.mp hb with rfl|hb
   ·exact ay he
   have q:b=it:=by simpa using hb
   subst q;obtain⟨_,e1,_⟩:=hit;exact ay e1
  have L9:∀ b∈[e,it],b≠s.heap.objs.size:=fun b hb=>b4 (fE b hb)
  have Rf:h2.get? s.heap.objs.size=some { cls:=.type "tuple",data:=.seq #[.int i s.toks,u] }:=(sb.2 _ (ba (L9 e oz))).trans tp
  have I2:Inv X pins σ (upd H s.heap.objs.size (.tup [.int i,x])) { s with heap:=h2,toks:=s.toks+1 }:=by
   refine I.turns (fp:=[e,it]) hf (fun b v hb q=>?_) (qnr _) ⟨xB,[.int i s.toks,u],.cons ⟨_,rfl⟩ (.cons ru .nil),⟨_,Rf,rfl,_,rfl⟩⟩;have b1:b≠e:=fun z=>hb (by simp[z])
   have b2:b≠it:=fun z=>hb (by simp[z])
   exact(sb.2 b b1).trans (kk b v b1 b2 q)
  refine⟨.ref s.heap.objs.size,_,I2,Z,⟨_,x,Z,I.hok.fresh (qnr _),(fun ys hy=>by rw[I.rg hy hq];exact hx),Z⟩,⟨⟨u,?_⟩,?_⟩,fun b hb=>?_⟩
  ·have q:((i+1:Nat):Int)=(i:Int)+1:=oo
   rw[q];exact Sz
  ·exact li.at fun o q=>(sb.2 it (ba g7)).trans q
  rw[aG (L9 b hb)];exact(hf b hb).1
 done:=by
  intro X hP hw hK hc i pins s σ H E I hf st hg;subst hP hw hK;obtain⟨xs,hq,hx⟩:=hg;obtain⟨its,rv,p,hz⟩:=I.list hq;obtain⟨⟨old,he⟩,hit⟩:=st;obtain⟨f0,f1,f2,f3,f4,f5⟩:=hf it oz;have hl:=rv.length;exact wpAny_pyNext_enum_end (I.ok.hd hc) he hit p.isList (by simp;exact oo) fun h' eb=>⟨rfl,I.turned (t':=s.toks) (fun b o hb q=>eb b o hb q) f0 f1 f3 f4 f5⟩
 self:=fun _ _ _ _ _ st h=>nI st.1.choose_spec h
def Jr(K:W.Frag)(tl:TE):TI:=fun σ H R=>tl σ H fun x H1=>∃ a,x=.ref a/\(∃ xs,SqL K H1 a xs)/\R (Ki K a) H1
theorem Ke{x1} {pt:Pos} {l:Expr}  (hl:PE X l tl) (hg:Gl X "enumerate") (hm:X.mg "enumerate"=none)
  (he:starEach [l] X.env=(false,eval l X.env):: starEach [] X.env:=by rfl) (gI:(backTo fq (starEach [] X.env)).any (·.1)=false:=by rfl):
  PI X (.Tuple elts x1 pt) (.Call (.Name "enumerate" p) [l] [] fq) (Jr X.K tl):=by
 intro pins s σ H R I h;refine ek (j6 I hg hm Bt.enumerate ?_ odz odz);have h':vB tl oF σ H (fun vs H1=>match vs with | [x]=>∃ a,x=.ref a/\(∃ xs,SqL X.K H1 a xs)/\R (Ki X.K a) H1|_=>False):=h;refine f_ (thn ((aa hl aj he) fq pins s σ H _ I h') fun us s1 ⟨vs,H1,I1,r1,q1⟩=>?_) he gI
 obtain⟨x,rfl⟩:∃ x,vs=[x]:=by
  match vs,q1 with
  |[x],_=>exact⟨x,Z⟩
 obtain⟨a,rfl,⟨xs,hq⟩,q⟩:=q1;obtain⟨u,rfl,ru⟩:=vals1 r1;cases ru;obtain⟨its,rv,p,hz⟩:=I1.list hq;refine call_enumerate_list p.isList fun h' Nw li sz kk=>?_
 refine nI Nw ?_;refine⟨s1.heap.objs.size+1,[s1.heap.objs.size+1,s1.heap.objs.size],_,_,H1,Z,I1.kept (t':=s1.toks) kk,Dq a (s1.heap.objs.size+1) s1.heap.objs.size (Nat.succ_ne_self _),⟨⟨_,Nw⟩,li⟩,fun b hb=>?_,q⟩;rcases av.mp hb with rfl|hb
 ·exact I1.pw oo (I1.hok.fresh oo)
 have e:b=s1.heap.objs.size:=by simpa using hb
 subst e;exact I1.pw (qnr _) (I1.hok.fresh (qnr _))
def Kb(x:Str):It:=⟨fun i _=>i<x.cps.size,fun i H v H'=>H'=H/\∃ c,x.cps[i]?=some c/\v=.str ⟨#[c]⟩,fun i _=>i=x.cps.size⟩
theorem wJ(x:Str)(t:Tok)(it:Addr)(T:String)(W:∀ A:Around,A.handled=none->Walks P w A it [it] [it] x.cps.size (SignAt x) (fun i h=>h.IsStrIter it T x t i))(sf:∀(A:Around)(i:Nat)(s:Shared)(Q:Value->Shared->Prop)(E:Value->Shared->Prop),s.heap.IsStrIter it T x t i->Q (.ref it) s->wpAny (model P w) A (pyIter (.ref it)) Q E s)(hT:["enumerate","zip","dict_itemiterator","dict_reverseitemiterator","odict_iterator","itertools.zip_longest","itertools.pairwise"].contains T=false): Turn P w K tg (Kb x) [it] it (fun i h=>h.IsStrIter it T x t i) where
 mem:=by simp
 obj:=fun i h st b hb=>by
  have e:b=it:=by simpa using hb
  subst e;obtain⟨o,e,c,d⟩:=st;exact⟨o,e,fun v z=>by rw[d]at z;cases z⟩
 keep:=fun i h h' ⟨o,e,r⟩ k=>⟨o,k it oz o e,r⟩
 item:=by
  intro X hP hw hK hc i pins s σ H E I hf st hg;subst hP hw hK;obtain⟨f0,f1,f2,f3,f4,f5⟩:=hf it oz;refine(W X.A (I.ok.hd hc)).item i s _ _ hg st fun v h' tk hv k7 kk=>?_
  obtain⟨c,u,hcu,rfl⟩:=hv;have I1:Inv X pins σ H { s with heap:=h',toks:=tk }:=I.turned (fun b o hb e=>kk b o (by simpa using hb) e) f0 f1 f3 f4 f5;obtain⟨o,e,sx,d⟩:=id k7;exact⟨_,Z,vA (s:={ s with heap:=h',toks:=tk }) e sx d hT ⟨.str ⟨#[c]⟩,H,I1,⟨u,Z⟩,⟨Z,c,hcu,Z⟩,k7,fun b hb=>(hf b hb).1⟩⟩
 done:=by
  intro X hP hw hK hc i pins s σ H E I hf st hg;subst hP hw hK;obtain⟨f0,f1,f2,f3,f4,f5⟩:=hf it oz;have hg:i=x.cps.size:=hg;subst hg;exact(W X.A (I.ok.hd hc)).done s _ _ st fun h' tk kk=>⟨rfl,I.turned (fun b o hb e=>kk b o (by simpa using hb) e) f0 f1 f3 f4 f5⟩
 self:=fun A i s Q E st h=>sf A i s Q E st h
def Ql(tl:TE):TI:=fun σ H R=>tl σ H fun v H1=>∃ x,v=.str x/\R (Kb x) H1
theorem wK{l:Expr}(hl:PE X l tl):PI X tg l (Ql tl):=by
 intro pins s σ H R I h;refine thn (hl pins s σ H _ I h) fun v s1 ⟨y,H1,I1,r1,q1⟩=>?_
 obtain⟨x,e,q⟩:=q1;subst e;obtain⟨t,rfl⟩:=r1
 have fp:∀ b∈[s1.heap.objs.size],jf X pins H1 b:=fun b hb=>by
  have e:b=s1.heap.objs.size:=by simpa using hb
  subst e;exact I1.pw (qnr _) (I1.hok.fresh (qnr _))
 cases ha:x.cps.all (· < 128)
 ·refine wpAny_pyIter_wide ha ⟨s1.heap.objs.size,[s1.heap.objs.size],_,_,H1,rfl,I1.kept (t':=s1.toks) fun b o e=>Heap.get?_push_of_some _ e,wJ x t _ "str_iterator" (fun A hA=>Walks.strWide hA _ x t) (fun _ _ _ _ _ st h=>wpAny_pyIter_striter_wide st h) odz,⟨_,Heap.get?_push_size _ rfl,rfl,rfl⟩,fp,q⟩
 refine wpAny_pyIter_ascii ha ⟨s1.heap.objs.size,[s1.heap.objs.size],_,_,H1,rfl,I1.kept (t':=s1.toks) fun b o e=>Heap.get?_push_of_some _ e,wJ x t _ "str_ascii_iterator" (fun A hA=>Walks.strAscii hA _ x t) (fun _ _ _ _ _ st h=>wpAny_pyIter_striter_ascii st h) odz,⟨_,Heap.get?_push_size _ rfl,rfl,rfl⟩,fp,q⟩
section
variable{g:TG}{tb:TS}{Q:VK}
theorem wL(Pv:Nat->St->Hp->Prop)(h0:Pv 0 σ H)(hx:∀ i σ H,i<=xs.length->Pv i σ H->SqL K H a xs)(hs:∀ i x σ H,xs[i]?=some x->Pv i σ H->∀ p,H p=none->g (.ref p) σ (upd H p (.tup [.int i,x])) fun σ2 H2=>tb { D with nx:=Pv (i+1),ct:=Pv (i+1),bk:=D.nx } σ2 H2)(hd:∀ σ H,Pv xs.length σ H->D.nx σ H):∃ W:Nat->Nat->St->Hp->Prop,(∃ m,W 0 m σ H)/\∀ i m σ H,W i m σ H -> ((Ki K a).stop i H/\D.nx σ H)\/((Ki K a).go i H/\∃ N:St->Hp->Prop,(∀ σ' H',N σ' H'->∃ m',m'<m/\W (i+1) m' σ' H')/\∀ x H',(Ki K a).ET i H x H'->g x σ H' fun σ2 H2=>tb { D with nx:=N,ct:=N,bk:=D.nx } σ2 H2):=by
 refine⟨fun i m σ H=>m=xs.length-i/\i<=xs.length/\Pv i σ H,⟨xs.length,oz,mf _,h0⟩,?_⟩;rintro i m σ H ⟨rfl,hi,p⟩;have q:=hx i σ H hi p
 by_cases fE:i<xs.length
 ·refine .inr ⟨⟨xs,xs[i],q,by simp[fE]⟩,Pv (i+1),fun σ' H' p'=>⟨xs.length-(i+1),oo,rfl,fE,p'⟩,fun x H' y=>?_⟩
  obtain⟨r,z,rfl,hn,hz,rfl⟩:=y;exact hs i z σ _ (hz xs q) p r hn
 have e:i=xs.length:=oo
 subst e;exact .inl ⟨⟨xs,q,qnr _⟩,hd σ H p⟩
theorem Kf(Pv:Nat->St->Hp->Prop)(h0:Pv 0 σ H)(hs:∀ i c σ H,x.cps[i]?=some c->Pv i σ H->g (.str ⟨#[c]⟩) σ H fun σ2 H2=>tb { D with nx:=Pv (i+1),ct:=Pv (i+1),bk:=D.nx } σ2 H2)(hd:∀ σ H,Pv x.cps.size σ H->D.nx σ H):∃ W:Nat->Nat->St->Hp->Prop,(∃ m,W 0 m σ H)/\∀ i m σ H,W i m σ H -> ((Kb x).stop i H/\D.nx σ H)\/((Kb x).go i H/\∃ N:St->Hp->Prop,(∀ σ' H',N σ' H'->∃ m',m'<m/\W (i+1) m' σ' H')/\∀ v H',(Kb x).ET i H v H'->g v σ H' fun σ2 H2=>tb { D with nx:=N,ct:=N,bk:=D.nx } σ2 H2):=by
 refine⟨fun i m σ H=>m=x.cps.size-i/\i<=x.cps.size/\Pv i σ H,⟨x.cps.size,oz,mf _,h0⟩,?_⟩;rintro i m σ H ⟨rfl,hi,p⟩
 by_cases fE:i<x.cps.size
 ·refine .inr ⟨fE,Pv (i+1),fun σ' H' p'=>⟨x.cps.size-(i+1),oo,rfl,fE,p'⟩,fun v H' y=>?_⟩
  obtain⟨rfl,c,hc,rfl⟩:=y;exact hs i c σ _ hc p
 have e:i=x.cps.size:=oo
 subst e;exact .inl ⟨rfl,hd σ H p⟩
theorem Dr(Pv:Nat->List V->Hp->Prop)(h0:Pv 0 [] H)(hn:xs.length<=sizeLine)(hl:∀ i ys H,Pv i ys H->ys.length<=i)(hx:∀ i ys H,Pv i ys H->SqL K H a xs)(hs:∀ i x ys H,xs[i]?=some x->Pv i ys H->∀ p,H p=none->g (.ref p) (cR ix σ) (upd H p (.tup [.int i,x])) fun σ2 H2=>Ext (cR ix σ) σ2/\tt σ2 H2 fun ok H3=>if ok=true then te σ2 H3 fun y H4=>Pv (i+1) (ys++[y]) H4 else Pv (i+1) ys H3)(hd:∀ ys H,Pv xs.length ys H->∀ p,H p=none->Q (.ref p) (upd H p (.lst ys))):jB (Ki K a) ix g tt te σ H Q:=by
 refine⟨fun i m ys H=>m=xs.length-i/\i<=xs.length/\Pv i ys H,⟨xs.length,oz,mf _,h0⟩,?_⟩;rintro i m ys H ⟨rfl,hi,p⟩;have q:=hx i ys H p;refine⟨fA (hl _ _ _ p) (fA hi hn),?_⟩
 by_cases fE:i<xs.length
 ·refine .inr ⟨⟨xs,xs[i],q,by simp[fE]⟩,Pv (i+1),fun ys' H' p'=>⟨xs.length-(i+1),oo,rfl,fE,p'⟩,fun x H' y=>?_⟩
  obtain⟨r,z,rfl,hn',hz,rfl⟩:=y;exact hs i z ys _ (hz xs q) p r hn'
 have e:i=xs.length:=oo
 subst e;exact .inl ⟨⟨xs,q,qnr _⟩,hd ys H p⟩
theorem GJ(Pv:Nat->List V->Hp->Prop)(h0:Pv 0 [] H)(hn:x.cps.size<=sizeLine)(hl:∀ i ys H,Pv i ys H->ys.length<=i)(hs:∀ i c ys H,x.cps[i]?=some c->Pv i ys H->g (.str ⟨#[c]⟩) (cR ix σ) H fun σ2 H2=>Ext (cR ix σ) σ2/\tt σ2 H2 fun ok H3=>if ok=true then te σ2 H3 fun y H4=>Pv (i+1) (ys++[y]) H4 else Pv (i+1) ys H3)(hd:∀ ys H,Pv x.cps.size ys H->∀ p,H p=none->Q (.ref p) (upd H p (.lst ys))):jB (Kb x) ix g tt te σ H Q:=by
 refine⟨fun i m ys H=>m=x.cps.size-i/\i<=x.cps.size/\Pv i ys H,⟨x.cps.size,oz,mf _,h0⟩,?_⟩;rintro i m ys H ⟨rfl,hi,p⟩;refine⟨fA (hl _ _ _ p) (fA hi hn),?_⟩
 by_cases fE:i<x.cps.size
 ·refine .inr ⟨fE,Pv (i+1),fun ys' H' p'=>⟨x.cps.size-(i+1),oo,rfl,fE,p'⟩,fun v H' y=>?_⟩
  obtain⟨rfl,c,hc,rfl⟩:=y;exact hs i c ys _ hc p
 have e:i=x.cps.size:=oo
 subst e;exact .inl ⟨rfl,hd ys H p⟩
theorem oN(f:Nat->V)(hn:x.cps.size<=sizeLine)(hs:∀ c (R:VK),c∈x.cps.toList->R (f c) H->Ext (cR ix σ) ((cR ix σ).set 0 (some (.str ⟨#[c]⟩)))/\te ((cR ix σ).set 0 (some (.str ⟨#[c]⟩))) H R)(hd:∀ p,H p=none->Q (.ref p) (upd H p (.lst (x.cps.toList.map f)))):jB (Kb x) ix (lA 0) Bb te σ H Q:=by
 refine GJ (x:=x) (fun i ys H'=>H'=H/\ys=(x.cps.toList.take i).map f) ⟨rfl,rfl⟩ hn (fun i ys H' ⟨_,e⟩=>by rw[e,dS,bE];exact oo) ?_ (fun ys H' ⟨e1,e2⟩ p hp=>by
  subst e1 e2;have e3:x.cps.toList.take x.cps.size=x.cps.toList:=fe oz
  rw[e3];exact hd p hp)
 rintro i c ys H' hi ⟨rfl,rfl⟩;have K':x.cps.toList[i]?=some c:=by simpa using hi
 obtain⟨h1,h2⟩:=hs c (fun y H4=>H4=H'/\(x.cps.toList.take i).map f++[y]=(x.cps.toList.take (i+1)).map f) (qh K') ⟨rfl,by rw[pj,K',ax];rfl⟩;exact⟨h1,h2⟩
end
def OJ(te:TE):TE:=fun σ H Q=>te σ H fun v H1=>∃ x,v=.str x/\(reprText x).length <= sizeLine/\Q (.str (reprText x)) H1
section
variable{a b:Expr}
theorem tM(he:PE X e te):PE X (.FormattedValue e 114 none pos) (OJ te):=by
 intro pins s σ H Q I h;refine wpAny_FormattedValue_repr (thn (he pins s σ H _ I h) fun v s1 ⟨y,H1,I1,r1,q1⟩=>?_);obtain⟨x,rfl,hx,q⟩:=q1;obtain⟨t,rfl⟩:=r1;refine wpAny_pyReprObj_gives (T := "str") (id := "str.__repr__") rfl PySem.F.slot_str_repr PySem.F.entry_str_repr (PySem.F.args_str_repr_1 _) (gives_str_repr x t) (hx:=hx) ?_;exact formatField_str (hsz:=hx) fun t' tk=>⟨.str _,H1,I1.tok _,⟨t',rfl⟩,q⟩
def Mx(ta tb:TE):TE:=fun σ H Q=>ta σ H fun v H1=>∃ x,v=.str x/\x.length<=sizeLine/\tb σ H1 fun u H2=>∃ y,u=.str y/\(x++y).length <= sizeLine/\Q (.str (x++y)) H2
theorem empty_app(x:Str):Str.empty++x=x:=by
 show Str.mk (#[]++x.cps)=x;simp
theorem wM(ha:PE X a ta)(hb:PE X b tb):PE X (.JoinedStr [a,b] pos) (Mx ta tb):=by
 intro pins s σ H Q I h;refine JoinedStr_many (pd (thn (ha pins s σ H _ I h) fun v s1 ⟨z,H1,I1,r1,q1⟩=>?_));obtain⟨x,rfl,hx,q⟩:=q1;obtain⟨t,rfl⟩:=r1;show(Str.empty++x).length <= sizeLine/\_;rw[empty_app];refine⟨hx,pd (thn (hb pins s1 σ H1 _ I1 q) fun v s2 ⟨z,H2,I2,r2,q2⟩=>?_)⟩;obtain⟨y,rfl,hy,q⟩:=q2;obtain⟨t',rfl⟩:=r2;exact⟨hy,joinParts_nil (hsz:=hy) ⟨.str _,H2,I2.tok _,⟨_,Z⟩,q⟩⟩
end
theorem repr_fits(hx:∀ c∈x.cps.toList,c<16^8)(hl:x.length<=1000):(reprText x).length <= sizeLine:=by
 have:=PySem.StrLaws.reprText_len x hx;unfold sizeLine;exact oo
def sD(P:Program)(w:World)(K:W.Frag)(a:Addr)(kvs:List (Key×V)):Prop :=
 (a==sysModules)=false/\∃ o es ep vs,K.lookup a=some o/\o.ExactDict/\o.data=.dict es ep/\KeysOf (bL P w) es/\Pairs (bL P w) es.toList vs/\(vs.map (·.1)).Nodup /\ KV kvs vs
def O1(a:Addr)(kvs:List (Key×V))(td ty:TE):TE:=fun σ H Q=>td σ H fun x H1=>ty σ H1 fun y H2=>∃ k v,x=.ref a/\y=kV k/\b7 kvs k=some v/\Q v H2
def My(neg:Bool)(a:Addr)(kvs:List (Key×V))(ty td:TE):TE:=fun σ H Q=>ty σ H fun y H1=>td σ H1 fun x H2=>∃ k,x=.ref a/\y=kV k/\Q (.bl (if neg then !(b7 kvs k).isSome else(b7 kvs k).isSome)) H2
section
variable{o i:Expr}
theorem sD.at(M:sD X.prog X.w X.K a kvs)(I:Inv X pins σ H s):∃ vs,KV kvs vs/\s.heap.DictOf (bL X.prog X.w) a vs:=by
 obtain⟨_,o,es,ep,vs,h1,h2,h3,h4,h5,h6,h7⟩:=M;exact⟨vs,h7,o,es,ep,I.kIn a o h1,h2,h3,h4,h5,h6⟩
theorem jh(M:sD X.prog X.w X.K a kvs)(hu:X.A.units+1<cLine)(ho:PE X o td)(hi:PE X i ty)(hs:Gw i):PE X (.Subscript o i pos) (O1 a kvs td ty):=by
 intro pins s σ H Q I h;refine yH PySem.F.slot_dict_getitem.lookup hs (thn (ho pins s σ H _ I h) fun u s1 ⟨x,H1,I1,rx,q1⟩=>thn (hi pins s1 σ H1 _ I1 q1) fun iv s2 ⟨y,H2,I2,ry,k,v,ex,ey,l,q2⟩=>?_);subst ex ey;obtain rfl:u=Value.ref a:=rx;obtain⟨vs,rel,dd⟩:=M.at I2;obtain⟨w',hw,qc⟩:=kq.some_of (v:=v) (o:=valueAt vs k) (by rw[<- l];exact rel.val k);exact⟨dd.typeIs,wpAny_getItem_of (mY ry) dd.mapOf hw ⟨v,H2,I2.tok _,qc,q2⟩⟩
theorem Mz(M:sD X.prog X.w X.K a kvs)(hi:PE X i ty)(ho:PE X o td):PC X .In i o (My false a kvs ty td):=by
 intro pins s σ H Q I h;refine thn (hi pins s σ H _ I h) fun iv s1 ⟨y,H1,I1,ry,q1⟩=>thn (ho pins s1 σ H1 _ I1 q1) fun u s2 ⟨x,H2,I2,rx,k,ex,ey,q2⟩=>?_
 subst ex ey;obtain rfl:u=Value.ref a:=rx;obtain⟨vs,rel,dd⟩:=M.at I2;refine wpAny_in_of (mY ry) M.1 dd.mapOf ?_;rw[<- (rel.val k).mi];exact⟨.bl _,H2,I2.tok _,Z,q2⟩
theorem oO(M:sD X.prog X.w X.K a kvs)(hi:PE X i ty)(ho:PE X o td):PC X .NotIn i o (My true a kvs ty td):=by
 intro pins s σ H Q I h;refine thn (hi pins s σ H _ I h) fun iv s1 ⟨y,H1,I1,ry,q1⟩=>thn (ho pins s1 σ H1 _ I1 q1) fun u s2 ⟨x,H2,I2,rx,k,ex,ey,q2⟩=>?_
 subst ex ey;obtain rfl:u=Value.ref a:=rx;obtain⟨vs,rel,dd⟩:=M.at I2;refine wpAny_notIn_of (mY ry) M.1 dd.mapOf ?_;rw[<- (rel.val k).mi];exact⟨.bl _,H2,I2.tok _,Z,q2⟩
end
def J'(w:World):List DictEntry->List (Key×V)->Prop
 |e::es,(.inr x,v):: r=>e.hash=hashStr w x/\(∃ t,e.key=.str x t)/\RelV v e.val/\J' w es r
 |e::es,(.inl i,v):: r=>e.hash=hashInt i/\(∃ t,e.key=.int i t)/\RelV v e.val/\J' w es r
 |[],[]=>True
 |_,_=>False
theorem J'.out{P:Program}{w:World}:∀{es:List DictEntry}{kvs:List (Key×V)},J' w es kvs->∃ vs,(∀ e∈es,∃ k,(bL P w).is k e.key=true/\e.hash=(bL P w).hash k)/\Pairs (bL P w) es vs/\vs.map (·.1)=kvs.map (·.1)/\KV kvs vs
 |[],[],_=>⟨[],(fun _ z=>nomatch z),.nil,rfl,.nil⟩
 | e::es,(.inr x,v):: r,⟨h1,⟨t,h2⟩,h3,h4⟩=>by
  obtain⟨vs,a1,a2,a3,a4⟩:=J'.out (P:=P) h4;have q:(bL P w).is (.inr x) e.key=true:=by rw[h2];exact qj P w x t
  refine⟨(.inr x,e.val):: vs,fun e' he=>?_,.cons q rfl a2,by simp[a3],.cons ⟨Z,h3⟩ a4⟩;rcases av.mp he with rfl|he
  ·exact⟨.inr x,q,h1⟩
  exact a1 e' he
 | e::es,(.inl i,v):: r,⟨h1,⟨t,h2⟩,h3,h4⟩=>by
  obtain⟨vs,a1,a2,a3,a4⟩:=J'.out (P:=P) h4;have q:(bL P w).is (.inl i) e.key=true:=by rw[h2];exact qi P w i t
  refine⟨(.inl i,e.val):: vs,fun e' he=>?_,.cons q rfl a2,by simp[a3],.cons ⟨Z,h3⟩ a4⟩;rcases av.mp he with rfl|he
  ·exact⟨.inl i,q,h1⟩
  exact a1 e' he
theorem mdk_of{es:Array DictEntry} {ep:Nat} (l:K.lookup a=some ⟨.type "dict",none,.dict es ep,#[]⟩) (m:J' w es.toList kvs) (n:(kvs.map (·.1)).Nodup) (s:(a==sysModules)=false):sD P w K a kvs:=by
 obtain⟨vs,a1,a2,a3,a4⟩:=m.out (P:=P);exact⟨s,_,es,ep,vs,l,⟨Z,Z,Z⟩,Z,fun e he=>a1 e (by simpa using he),a2,by rw[a3];exact n,a4⟩
theorem lD:iX X (compareOp .LtE) (fun x y H Q=>∃ i j,x=.str i/\y=.str j/\Q (.bl (!decide (j.cps.toList<i.cps.toList))) H):=by
 intro pins s σ H x y v u Q I rx ry h;obtain⟨i,j,rfl,rfl,q⟩:=h;obtain⟨t,rfl⟩:=rx;obtain⟨t',rfl⟩:=ry;refine PySem.P.le_str ⟨.bl _,H,I,rfl,?_⟩
 first|exact q|simpa using q
section
variable{k:Nat}{E:XK}{o:Expr}{t:TA}
theorem MF(M:Mk X.K C f)(F:fF X.prog X.w X.K X.mg X.base CX k f fd ps sp)(hr:eW (k+1) X.A)(hm:X.mg x=some (.ref C))(hb:Binds X.K fd ps [])(hx:dM CX X E)
  (hg:X.env.scope.names.lookup x=some .globalImplicit:=by kernel_rfl) (kg:(x==("__debug__":Str))=false:=by kernel_rfl):PE X (.Call (.Name x p) [] [] pos) (vD C sp [] E oF):=Gr M F hr hg hm hb .nil hx kg
theorem MJ(F:fF X.prog X.w X.K X.mg X.base (CX1 X.prog X.w) k f fd ps sp)(hr:eW k X.A)(hm:X.mg x=some (.ref f))(hk:W.keepIn X.K (.ref f)=true)(hb:Binds X.K fd ps [])(ha:PA X.RA (e::es) t)
  (hg:X.env.scope.names.lookup x=some .globalImplicit:=by kernel_rfl) (kg:(x==("__debug__":Str))=false:=by kernel_rfl) (he:starEach (e::es) X.env=(false,eval e X.env):: starEach es X.env:=by rfl) (gI:(backTo pos (starEach es X.env)).any (·.1)=false:=by rfl):
  Pe X (.Call (.Name x p) (e::es) [] pos) (wG sp [] t):=GD F hr hg hm hk hb .nil ha kg he gI
end
theorem walk_ofX{l:W.OpenLaw}{k:Nat}{XP:(Str->Option Value)->Heap->Prop}{d:DefRec}{K:Params->W.Frag}{sp:W.Frag->Sp}(hn:l.most=some n)(rp:n<=sizeLine)(ND:d.params.defaults=[])(hr:eW k callerA)(hY:∀(w:World)(h:Heap),YP w h->(K w.params).In h)(F:∀(w:World)(mg:Str->Option Value)(fa:Addr)(h:Heap),(K w.params).In h->h.Ns mainGlobals mg->mg d.name=some (.ref fa) -> ∃ fd:FuncData,(∀(s:Shared)(u:Value),BindsTo s fd ⟨[u],[]⟩ [(x,u)]) /\ ∀ base:Heap,(K w.params).In base->base.Ns mainGlobals mg->fF l.prog w (K w.params) mg base (CX1 l.prog w) k fa fd [x] (sp (K w.params)))(BO:∀(K:W.Frag)(H:Hp)(a:Addr)(ns:List Int),ns.length<=n->EF H->SqL K H a (ns.map V.int)->sp K [.ref a] H (fun v _=>v=.bl true) fun _ _ _=>False): W.WalkO q loose XP YP l.row.toRowW d [] (fun f vs=>PySem.call f vs):=
 J6 (K:=K) (CX:=fun w=>CX1 l.prog w) (sp:=fun w=>sp (K w.params)) hn rp ND hr hY F (fun w H a ns h1 h2 h3=>BO (K w.params) H a ns h1 h2 h3) fun _ _ _ _ _ ⟨_,_,_,_,_,z⟩=>z
def MK(ta tb tc:TE):TE:=fun σ H Q=>ta σ H fun v H1=>∃ x,v=.str x/\x.length<=sizeLine/\tb σ H1 fun u H2=>∃ y,u=.str y/\(x++y).length <= sizeLine/\tc σ H2 fun r H3=>∃ z,r=.str z/\(x++y++z).length <= sizeLine/\Q (.str (x++y++z)) H3
section
variable{a b c:Expr}
theorem GK(ha:PE X a ta)(hb:PE X b tb)(hc:PE X c tc):PE X (.JoinedStr [a,b,c] pos) (MK ta tb tc):=by
 intro pins s σ H Q I h;refine JoinedStr_many (pd (thn (ha pins s σ H _ I h) fun v s1 ⟨z,H1,I1,r1,q1⟩=>?_));obtain⟨x,rfl,hx,q⟩:=q1;obtain⟨t,rfl⟩:=r1;show(Str.empty++x).length <= sizeLine/\_;rw[empty_app];refine⟨hx,pd (thn (hb pins s1 σ H1 _ I1 q) fun v s2 ⟨z,H2,I2,r2,q2⟩=>?_)⟩;obtain⟨y,rfl,hy,q⟩:=q2;obtain⟨t',rfl⟩:=r2;refine⟨hy,pd (thn (hc pins s2 σ H2 _ I2 q) fun v s3 ⟨z,H3,I3,r3,q3⟩=>?_)⟩;obtain⟨z,rfl,hz,q⟩:=q3;obtain⟨t'',rfl⟩:=r3;exact⟨hz,joinParts_nil (hsz:=hz) ⟨.str _,H3,I3.tok _,⟨_,Z⟩,q⟩⟩
end
def O2(K:W.Frag):List V->Hp->VK->Prop:=fun xs H Q=>∃(p:Addr)(ns:List Int),xs=[.ref p]/\SqL K H p (ns.map V.int)/\Q (.int ns.sum) H
theorem uF(hc:X.calm=true):dN X (.builtin "sum") (O2 X.K):=by
 intro pins s σ H xs us Q I r h;obtain⟨p,ns,rfl,hp,q⟩:=h;obtain⟨u,rfl,ru⟩:=vals1 r;cases ru;obtain⟨its,rv,pl,hz⟩:=I.list hp;have hi:=intsAre_of rv;have hh:X.A.handled=none:=I.ok.hd hc;obtain⟨xs,e⟩:=hi.allInts.items
 have nE:ns=xs.toList.map (·.1):=by
  rw[<- hi.numsOf,<- x6,<- e]
 have hlen:ns.length=xs.size:=by rw[nE,dS,ag]
 have hn:numAt xs=fun i=>ns.getD i 0:=by
  funext i;rw[nE];exact t4 _ _
 have hl:=pl.isList;rw[e]at hl;refine sum_intListG hh hl fun h' tk t' hk=>?_
 rw[hn,qw ns xs.size oo,<- hlen,bS];exact⟨.int _,H,I.kept (t':=tk) hk,⟨t',Z⟩,q⟩
end L2
namespace PySem
open AutoSeq1 (wpAny_loadPart')
theorem GP(c0:Addr)(its:Array Value)(n:Nat)(Tn:Option Addr)(sl:Array (Option Value)):
  Meets (Builtin.«enumerate.__new__» ⟨[.type "enumerate",.ref c0],[]⟩) (fun _ R z=>z.heap.get? c0=some { cls:=.type "tuple",dict:=Tn,data:=.seq its n,slots:=sl } /\
   R (.ok (.ret (.ref (z.heap.push { cls:=.type "tuple_iterator",data:=.fields #[.ref c0,.int 0 0] }).objs.size)))
    { z with heap:=(z.heap.push { cls:=.type "tuple_iterator",data:=.fields #[.ref c0,.int 0 0] }).push { cls:=.type "enumerate",data:=.fields #[.none,.bool false,.ref z.heap.objs.size,rawInt 0,.none,.none] } }):=
 .of_wp fun P w A R z h=>by
  obtain⟨hp,g,d,tk,os⟩:=z;obtain⟨q0,h⟩:=h;have DZ:=sub_enumerate;have qT:Heap.IsTuple (Shared.heap ⟨hp,g,d,tk,os⟩) c0 its:=⟨_,q0,rfl,n,rfl⟩
  wp_walk using dQ q0
  refine wpAny_stack_any fun st=>aI ?_
  split
  ·rename_i c _ _ _ _ _
   cases(c==Value.type "enumerate")
   ·wp_walk using dQ q0,i3 qT
    exact⟨_,Z,h⟩
   wp_walk using dQ q0,i3 qT
   exact⟨_,Z,h⟩
  wp_walk using dQ q0,i3 qT
  exact⟨_,Z,h⟩
theorem Ds(hL:z.heap.IsTuple c0 its)(h:∀ h',IsEnum h' (z.heap.objs.size+1) z.heap.objs.size 0 .none -> h'.IsTupleIter z.heap.objs.size c0 0->h'.objs.size=z.heap.objs.size+2 -> (∀ b o,z.heap.get? b=some o->h'.get? b=some o)->Q (.ref (z.heap.objs.size+1)) { z with heap:=h' }): wpAny (model P w) A (call (.type "enumerate") [.ref c0]) Q E z:=by
 obtain⟨⟨c,Tn,dt,sl⟩,hl,hc,n,hd⟩:=hL;obtain rfl:c=.type "tuple":=hc;obtain rfl:dt=.seq its n:=hd;refine callType_new F.called_enumerate odz (F.typeCall_enumerate_1 _) (F.newCall_enumerate_1 _) (fun obj=>F.args_object_init_2 obj _) F.entry_enumerate_new (GP c0 its n Tn sl) ⟨hl,?_⟩;have hz:(z.heap.push { cls:=.type "tuple_iterator",data:=.fields #[.ref c0,.int 0 0] }).objs.size=z.heap.objs.size+1:=j' ..;show _/\_;rw[hz]
 have he:IsEnum ((z.heap.push { cls:=.type "tuple_iterator",data:=.fields #[.ref c0,.int 0 0] }).push
   { cls:=.type "enumerate",data:=.fields #[.none,.bool false,.ref z.heap.objs.size,rawInt 0,.none,.none] }) (z.heap.objs.size+1) z.heap.objs.size 0 .none:=by
  have:=Heap.get?_push_size (z.heap.push { cls:=.type "tuple_iterator",data:=.fields #[.ref c0,.int 0 0] })
   (o:={ cls:=.type "enumerate",data:=.fields #[.none,.bool false,.ref z.heap.objs.size,rawInt 0,.none,.none] }) rfl
  rw[hz]at this;exact this
 exact⟨⟨_,he,Z⟩,h _ he ⟨_,Heap.get?_push_of_some _ (Heap.get?_push_size _ rfl),Z,Z⟩ (by rw[j',hz]) fun b o y=>Heap.get?_push_of_some _ (Heap.get?_push_of_some _ y)⟩
theorem Bf{x:Value}(hit:z.heap.IsTupleIter it c0 i)(ht:z.heap.IsTuple c0 its)(hx:its[i]?=some x)(hQ:∀ h',h'.IsTupleIter it c0 (i+1)->Heap.SameBut it z.heap h'->Q x { z with heap:=h' }):wpAny (model P w) A (Builtin.SmallTypes.nextOf (.ref it)) Q E z:=by
 obtain⟨o,q1,hc,hd⟩:=id hit;obtain⟨ol,q2,_,nl,q3⟩:=ht;unfold Builtin.SmallTypes.nextOf;refine ae (wpAny_callSpecial?_slot (name:=Str.ofString "__next__") hit.typeIs hU (kx hU hit.typeIs F.entry_tuple_iterator_next ?_ (F.args_tuple_iterator_next_1 _)));show wpAny _ _ (field (.ref it) 0>>=_) _ _ z;refine ae (i5 q1 hd (x:=.ref c0) rfl ?_);show wpAny _ _ (if (Value.ref c0==Value.none)=true then _ else _) _ _ z;rw[bq (show ¬((Value.ref c0==Value.none)=true)from gc)];show wpAny _ _ (field (.ref it) 1>>=_) _ _ z;refine ae (i5 q1 hd (x:=.int i 0) rfl ?_);show wpAny _ _ (seqItems? (.ref c0)>>=_) _ _ z;refine ae (mE q2 q3 ?_);simp only[bo,hx];refine ae (wpAny_setField q1 hd oz (aI ⟨x,rfl,aI (hQ _ ?_ (Heap.SameBut.update ..))⟩));exact⟨_,Heap.get?_update_self _ q1 (Obj.isFreed_of_fields (Obj.data_mapFields hd _)),(Obj.cls_mapFields ..).trans hc,by rw[Obj.data_mapFields hd];simp[rawInt]⟩
theorem uG(hh:A.handled=none)(hit:z.heap.IsTupleIter it c0 i)(ht:z.heap.IsTuple c0 its)(hx:its[i]?=none)(hE:∀ h' e,Heap.ExtBut it z.heap h'->(∃ o,h'.get? e=some o/\o.cls=.type "StopIteration")->E (.ref e) { z with heap:=h' }):wpAny (model P w) A (Builtin.SmallTypes.nextOf (.ref it)) Q E z:=by
 obtain⟨o,q1,hc,hd⟩:=id hit;obtain⟨ol,q2,_,nl,q3⟩:=ht;unfold Builtin.SmallTypes.nextOf;refine ae (wpAny_callSpecial?_slot (name:=Str.ofString "__next__") hit.typeIs hU (kx hU hit.typeIs F.entry_tuple_iterator_next ?_ (F.args_tuple_iterator_next_1 _)));show wpAny _ _ (field (.ref it) 0>>=_) _ _ z;refine ae (i5 q1 hd (x:=.ref c0) rfl ?_);show wpAny _ _ (if (Value.ref c0==Value.none)=true then _ else _) _ _ z;rw[bq (show ¬((Value.ref c0==Value.none)=true)from gc)];show wpAny _ _ (field (.ref it) 1>>=_) _ _ z;refine ae (i5 q1 hd (x:=.int i 0) rfl ?_);show wpAny _ _ (seqItems? (.ref c0)>>=_) _ _ z;refine ae (mE q2 q3 ?_);simp only[bo,hx];refine ae (wpAny_rule (ae (wpAny_setField q1 hd oz ?_)));show wpAny _ _ (newExc (.type "StopIteration") []>>=_) _ _ _;refine ae ?_;simp only[newExc,newTuple];refine ae (fg ?_ (by size_fits));refine ae (m:=firstArgMember _ _) (wpAny_of_eq (a:=Value.none) (by first|rfl | (simp only[firstArgMember];rfl)) ?_);refine fg ?_ (by size_fits);simp only[raiseNew];refine ae (wpAny_handled ?_)
 first|rw[show A.in1.handled=none from hh] | rw[hh]
 refine ae (aI (wpAny_throw ?_));exact hE _ _ (((Heap.SameBut.update ..).extBut.push _).push _) ⟨_,Heap.get?_push_size _ rfl,rfl⟩
theorem Heap.IsTuple.on(y:h.IsTuple c0 its)(k:∀ o,h.get? c0=some o->h'.get? c0=some o):h'.IsTuple c0 its:=let ⟨o,e,r⟩:=y;⟨o,k o e,r⟩
theorem Heap.IsTupleIter.on(y:h.IsTupleIter it c0 i)(k:∀ o,h.get? it=some o->h'.get? it=some o):h'.IsTupleIter it c0 i:=let ⟨o,e,r⟩:=y;⟨o,k o e,r⟩
theorem Dt(hh:A.handled=none)(it c0:Addr)(g7:c0≠it)(its:Array Value): Draws P w A it [it,c0] its.size (fun i v=>its[i]?=some v) (fun i h=>h.IsTupleIter it c0 i/\h.IsTuple c0 its) where
 live:=fun _ _ st=>by obtain⟨o,e,_⟩:=st.1;exact⟨o,e⟩
 frame:=fun _ _ _ st hk=>⟨st.1.on fun o e=>hk it oz o e,st.2.on fun o e=>hk c0 oz o e⟩
 item:=fun i z Q E hi st hQ=>Bf st.1 st.2 (x:=its[i]) (by simp[hi]) fun h' Sq wo=>hQ _ h' z.toks (by simp[hi]) ⟨Sq,st.2.extBut wo.extBut g7⟩ wo
 done:=fun z Q E st hE=>uG hh st.1 st.2 oz hE
end PySem
namespace L2
open PySem PySem.Spec PyProof.Rows
def qM(K:W.Frag)(a:Addr):It :=
 ⟨fun i H=>∃ xs x,SqT K H a xs/\xs[i]?=some x,fun i H x H'=>∃ p y,x=.ref p/\H p=none/\(∀ xs,SqT K H a xs->xs[i]?=some y)/\H'=upd H p (.tup [.int i,y]),fun i H=>∃ xs,SqT K H a xs/\xs.length<=i⟩
theorem Bg{x1}(a e it:Addr)(g7:e≠it)(hea:e≠a)(VD:a≠it): Turn P w K (.Tuple elts x1 pos) (qM K a) [e,it] e (fun i h=>(∃ old,IsEnum h e it (i:Nat) old)/\h.IsTupleIter it a i) where
 mem:=by simp
 obj:=fun i h st b hb=>by
  obtain⟨⟨old,s1⟩,o,e1,c,d⟩:=st;rcases av.mp hb with rfl|hb
  ·exact⟨_,s1,fun v z=>by
    have z':Data.fields _=Data.cell v:=z
    cases z'⟩
  have q:b=it:=by simpa using hb
  subst q;exact⟨o,e1,fun v z=>by rw[d]at z;cases z⟩
 keep:=fun i h h' st k=>⟨⟨st.1.choose,k e oz _ st.1.choose_spec⟩,st.2.on fun o q=>k it oz o q⟩
 item:=by
  intro X hP hw hK hc i pins s σ H E I hf st hg;subst hP hw hK;obtain⟨xs,x,hq,hx⟩:=hg;obtain⟨its,rv,p,hz⟩:=I.tuple hq;obtain⟨u,hu,ru⟩:=rv.get hx;obtain⟨⟨old,he⟩,hit⟩:=st;have D:=Dt (P:=X.prog) (w:=X.w) (A:=X.A.in1) (I.ok.hd hc) it a VD its.toArray
  have fE:i<its.toArray.size:=by
   have:=(List.getElem?_eq_some_iff.mp hu).1
   simpa using this
  refine wpAny_pyNext_enum_itemD D he ⟨hit,(show s.heap.IsTuple a its.toArray from p)⟩ fE g7 (by simp[g7,hea]) fun x' h' tk hP ho _z tp sz kk=>?_
  obtain rfl:x'=u:=by
   have h1:its.toArray[i]?=some u:=by simpa using hu
   rw[hP]at h1;exact iE h1
  refine⟨_,Z,wpAny_letOwnedTupleGo_enum (s:={ s with heap:=h',toks:=tk+1 }) ho fun h2 Sz sb=>?_⟩
  have fE:∀ b∈[e,it],b<s.heap.objs.size:=fun b hb=>by
   rcases av.mp hb with rfl|hb
   ·exact ay he
   have q:b=it:=by simpa using hb
   subst q;obtain⟨_,e1,_⟩:=hit;exact ay e1
  have L9:∀ b∈[e,it],b≠s.heap.objs.size:=fun b hb=>b4 (fE b hb)
  have Rf:h2.get? s.heap.objs.size=some { cls:=.type "tuple",data:=.seq #[.int i tk,x'] }:=(sb.2 _ (ba (L9 e oz))).trans tp
  have I2:Inv X pins σ (upd H s.heap.objs.size (.tup [.int i,x])) { s with heap:=h2,toks:=tk+1 }:=by
   refine I.turns (fp:=[e,it]) hf (fun b v hb q=>?_) (qnr _) ⟨xB,[.int i tk,x'],.cons ⟨_,rfl⟩ (.cons ru .nil),⟨_,Rf,rfl,_,rfl⟩⟩;have b1:b≠e:=fun z=>hb (by simp[z])
   have b2:b≠it:=fun z=>hb (by simp[z])
   exact(sb.2 b b1).trans (kk b v b1 b2 q)
  refine⟨.ref s.heap.objs.size,_,I2,Z,⟨_,x,Z,I.hok.fresh (qnr _),(fun ys hy=>by rw[I.oQ hy hq];exact hx),Z⟩,⟨⟨x',?_⟩,?_⟩,fun b hb=>?_⟩
  ·have q:((i+1:Nat):Int)=(i:Int)+1:=oo
   rw[q];exact Sz
  ·exact _z.1.on fun o q=>(sb.2 it (ba g7)).trans q
  rw[aG (L9 b hb)];exact(hf b hb).1
 done:=by
  intro X hP hw hK hc i pins s σ H E I hf st hg;subst hP hw hK;obtain⟨xs,hq,hx⟩:=hg;obtain⟨its,rv,p,hz⟩:=I.tuple hq;obtain⟨⟨old,he⟩,hit⟩:=st;obtain⟨f0,f1,f2,f3,f4,f5⟩:=hf it oz;have hl:=rv.length;have D:=Dt (P:=X.prog) (w:=X.w) (A:=X.A.in1) (I.ok.hd hc) it a VD its.toArray;have hT:s.TypeIs (.ref e) "enumerate":=⟨_,he,rfl⟩
  unfold pyNext;refine ae (wpAny_attempt (wpAny_callSpecial?_slot (name:=Str.ofString "__next__") hT F.slot_enumerate_next (kx F.slot_enumerate_next hT F.entry_enumerate_next ?_ (F.args_enumerate_next_1 _))));show wpAny _ _ (field (.ref e) 2>>=_) _ _ _;refine ae (i5 he rfl (x:=.ref it) rfl ?_);refine ae (uG (I.ok.hd hc) hit (show s.heap.IsTuple a its.toArray from p) (by simp;exact oo) fun h' y eb _6=>?_);obtain⟨o,q1,q2⟩:=_6;refine ae (wpAny_isInstance (T := "StopIteration") (b:=true) ⟨o,q1,q2⟩ isSubtype_stop ?_);exact aI ⟨rfl,I.turned (t':=s.toks) (fun b o hb q=>eb b o hb q) f0 f1 f3 f4 f5⟩
 self:=fun _ _ _ _ _ st h=>nI st.1.choose_spec h
def Du(K:W.Frag)(tl:TE):TI:=fun σ H R=>tl σ H fun x H1=>∃ a,x=.ref a/\(∃ xs,SqT K H1 a xs)/\R (qM K a) H1
theorem GQ{x1} {pt:Pos} {l:Expr}  (hl:PE X l tl) (hg:Gl X "enumerate") (hm:X.mg "enumerate"=none)
  (he:starEach [l] X.env=(false,eval l X.env):: starEach [] X.env:=by rfl) (gI:(backTo fq (starEach [] X.env)).any (·.1)=false:=by rfl):
  PI X (.Tuple elts x1 pt) (.Call (.Name "enumerate" p) [l] [] fq) (Du X.K tl):=by
 intro pins s σ H R I h;refine ek (j6 I hg hm Bt.enumerate ?_ odz odz);have h':vB tl oF σ H (fun vs H1=>match vs with | [x]=>∃ a,x=.ref a/\(∃ xs,SqT X.K H1 a xs)/\R (qM X.K a) H1|_=>False):=h;refine f_ (thn ((aa hl aj he) fq pins s σ H _ I h') fun us s1 ⟨vs,H1,I1,r1,q1⟩=>?_) he gI
 obtain⟨x,rfl⟩:∃ x,vs=[x]:=by
  match vs,q1 with
  |[x],_=>exact⟨x,Z⟩
 obtain⟨a,rfl,⟨xs,hq⟩,q⟩:=q1;obtain⟨u,rfl,ru⟩:=vals1 r1;cases ru;obtain⟨its,rv,p,hz⟩:=I1.tuple hq;have pT:s1.heap.IsTuple a its.toArray:=p
 have fE:a<s1.heap.objs.size:=by
  obtain⟨_,e1,_⟩:=pT;exact ay e1
 refine Ds pT fun h' Nw li sz kk=>?_
 refine nI Nw ?_;refine⟨s1.heap.objs.size+1,[s1.heap.objs.size+1,s1.heap.objs.size],_,_,H1,Z,I1.kept (t':=s1.toks) kk,Bg a (s1.heap.objs.size+1) s1.heap.objs.size (Nat.succ_ne_self _) (Nat.ne_of_gt (ly fE)) (b4 fE),⟨⟨_,Nw⟩,li⟩,fun b hb=>?_,q⟩;rcases av.mp hb with rfl|hb
 ·exact I1.pw oo (I1.hok.fresh oo)
 have e:b=s1.heap.objs.size:=by simpa using hb
 subst e;exact I1.pw (qnr _) (I1.hok.fresh (qnr _))
section
variable{x1:Nat}{pt:Pos}{l:Expr}
theorem Bh(hl:PE X l tl) (hm:X.mg "enumerate"=none) (hg:X.env.scope.names.lookup ("enumerate":Str)=some .globalImplicit:=by kernel_rfl)
  (he:starEach [l] X.env=(false,eval l X.env):: starEach [] X.env:=by rfl) (gI:(backTo fq (starEach [] X.env)).any (·.1)=false:=by rfl):
  PI X (.Tuple elts x1 pt) (.Call (.Name "enumerate" p) [l] [] fq) (Jr X.K tl):=Ke hl hg hm he gI
theorem jC(hl:PE X l tl) (hm:X.mg "enumerate"=none) (hg:X.env.scope.names.lookup ("enumerate":Str)=some .globalImplicit:=by kernel_rfl)
  (he:starEach [l] X.env=(false,eval l X.env):: starEach [] X.env:=by rfl) (gI:(backTo fq (starEach [] X.env)).any (·.1)=false:=by rfl):
  PI X (.Tuple elts x1 pt) (.Call (.Name "enumerate" p) [l] [] fq) (Du X.K tl):=GQ hl hg hm he gI
end
section
variable{g:TG}{tb:TS}{Q:VK}
theorem uH(Pv:Nat->St->Hp->Prop)(h0:Pv 0 σ H)(hx:∀ i σ H,i<=xs.length->Pv i σ H->SqT K H a xs)(hs:∀ i x σ H,xs[i]?=some x->Pv i σ H->∀ p,H p=none->g (.ref p) σ (upd H p (.tup [.int i,x])) fun σ2 H2=>tb { D with nx:=Pv (i+1),ct:=Pv (i+1),bk:=D.nx } σ2 H2)(hd:∀ σ H,Pv xs.length σ H->D.nx σ H):∃ W:Nat->Nat->St->Hp->Prop,(∃ m,W 0 m σ H)/\∀ i m σ H,W i m σ H -> ((qM K a).stop i H/\D.nx σ H)\/((qM K a).go i H/\∃ N:St->Hp->Prop,(∀ σ' H',N σ' H'->∃ m',m'<m/\W (i+1) m' σ' H')/\∀ x H',(qM K a).ET i H x H'->g x σ H' fun σ2 H2=>tb { D with nx:=N,ct:=N,bk:=D.nx } σ2 H2):=by
 refine⟨fun i m σ H=>m=xs.length-i/\i<=xs.length/\Pv i σ H,⟨xs.length,oz,mf _,h0⟩,?_⟩;rintro i m σ H ⟨rfl,hi,p⟩;have q:=hx i σ H hi p
 by_cases fE:i<xs.length
 ·refine .inr ⟨⟨xs,xs[i],q,by simp[fE]⟩,Pv (i+1),fun σ' H' p'=>⟨xs.length-(i+1),oo,rfl,fE,p'⟩,fun x H' y=>?_⟩
  obtain⟨r,z,rfl,hn,hz,rfl⟩:=y;exact hs i z σ _ (hz xs q) p r hn
 have e:i=xs.length:=oo
 subst e;exact .inl ⟨⟨xs,q,qnr _⟩,hd σ H p⟩
theorem gO(Pv:Nat->List V->Hp->Prop)(h0:Pv 0 [] H)(hn:xs.length<=sizeLine)(hl:∀ i ys H,Pv i ys H->ys.length<=i)(hx:∀ i ys H,Pv i ys H->SqT K H a xs)(hs:∀ i x ys H,xs[i]?=some x->Pv i ys H->∀ p,H p=none->g (.ref p) (cR ix σ) (upd H p (.tup [.int i,x])) fun σ2 H2=>Ext (cR ix σ) σ2/\tt σ2 H2 fun ok H3=>if ok=true then te σ2 H3 fun y H4=>Pv (i+1) (ys++[y]) H4 else Pv (i+1) ys H3)(hd:∀ ys H,Pv xs.length ys H->∀ p,H p=none->Q (.ref p) (upd H p (.lst ys))):jB (qM K a) ix g tt te σ H Q:=by
 refine⟨fun i m ys H=>m=xs.length-i/\i<=xs.length/\Pv i ys H,⟨xs.length,oz,mf _,h0⟩,?_⟩;rintro i m ys H ⟨rfl,hi,p⟩;have q:=hx i ys H p;refine⟨fA (hl _ _ _ p) (fA hi hn),?_⟩
 by_cases fE:i<xs.length
 ·refine .inr ⟨⟨xs,xs[i],q,by simp[fE]⟩,Pv (i+1),fun ys' H' p'=>⟨xs.length-(i+1),oo,rfl,fE,p'⟩,fun x H' y=>?_⟩
  obtain⟨r,z,rfl,hn',hz,rfl⟩:=y;exact hs i z ys _ (hz xs q) p r hn'
 have e:i=xs.length:=oo
 subst e;exact .inl ⟨⟨xs,q,qnr _⟩,hd ys H p⟩
end
section
def Js(n:Nat)(lo hi:Option Int):Prop:=HT.fb n 0 lo=0/\HT.fb n n hi=n
instance (n:Nat) (lo hi:Option Int):Decidable (Js n lo hi):=by unfold Js;infer_instance
def Qm(r:V->List V->Hp->VK->Prop)(to:TE)(t:TA):TE:=fun σ H Q=>to σ H fun x H1=>∃ p ys,x=.ref p/\H1 p=some (.tup ys)/\t σ H1 fun xs H2=>r x xs H2 Q
variable{o:Expr}{t:TA}{id:String}{r:V->List V->Hp->VK->Prop}
theorem MN(slot:Slot "tuple" name id) (we:typeOf (.builtin id)=pure (.type "method_descriptor")) (hm:sC X id r) (ho:PE X o to) (ha:PA X (e::es) t) (l0:attributeBase o name X.env (eval o X.env)=eval o X.env:=by rfl)
  (AR:((backTo fq (starEach (e::es) X.env)).all (fun x=>!x.1)&&(backToKw fq (keywordEach [] X.env)).all (fun x=>x.1.isSome)&&decide ((e::es).length+([]:List Keyword).length+(if ([]:List Keyword).isEmpty then 0 else 1)<30))=true:=by rfl)
  (og:(apos.endLine==fq.line)=true:=by rfl) (hs:starEach (e::es) X.env=(false,eval e X.env):: starEach es X.env:=by rfl) (n_:(backTo fq (starEach es X.env)).any (·.1)=false:=by rfl):
  PE X (.Call (.Attribute o name apos) (e::es) [] fq) (Qm r to t):=by
 intro pins s σ H Q I h;refine wpAny_Call_method_late l0 AR og rfl (thn (ho pins s σ H _ I h) fun v s1 ⟨x,H1,I1,r1,p,ys,ex,hp,q1⟩=>?_);subst ex;have ev:v=Value.ref p:=r1;subst ev;obtain⟨_,its,_,ob,e1,c1,n,d1⟩:=(show eM X.prog X.w H1 s1.heap p (.tup ys)from I1.hok p _ hp)
 refine⟨"tuple",id,PySem.F.plainAttrs_tuple,slot,we,⟨ob,e1,c1⟩,fun a ea=>?_,?_⟩
 ·cases ea
  exact⟨ob,e1,bP Prod.snd d1⟩
 have hA:=ha fq pins s1 σ H1 _ I1 q1;rw[hs]at hA ⊢;refine qa (by show(false||(backTo fq (starEach es X.env)).any (·.1))=false;rw[n_]<;>rfl) (uk ?_);exact thn hA fun us s2 ⟨vs,H2,I2,r2,q2⟩=>hm pins s2 σ H2 _ vs _ us Q I2 r1 r2 q2
end
end L2
namespace PySem
section
variable{I:Addr}{wr:List Addr}{P:Nat->Value->Prop}{St:Nat->Heap->Prop}
theorem Dv(W:Walks P0 w A.in1 I fp wr n P St)(bt:Nat->Nat->Bool)(IP:CmpOf P0 w A.in1 .Lt P bt)(S:Addr)(FC:S∉fp)(d:Value):
  ∀(k j:Nat) (z:Shared) (vb:Value) (c:Nat),n-(j+1)=k->j+1<=n->St (j+1) z.heap->P (argBest bt j) vb->z.heap.get? S=some { cls:=.type "list",dict:=none,data:=.seq #[vb,vb] c,slots:=#[] } ->
  (∀ v h' tk,P (argBest bt (n-1)) v->(∀ b o,b∉wr->b≠S->z.heap.get? b=some o->h'.get? b=some o)->R (.ok (.ret v)) { z with heap:=h',toks:=tk }) ->
  codeAny (model P0 w) A (.builtin "min.loop" ⟨[.ref I,.none,.ref S],[("default",d)]⟩) R z:=by
 have QM:S∉wr:=fun y=>FC (W.sub _ y)
 have q0:(toString "min"++toString ".loop" : String)="min.loop":=by decide
 intro k
 induction k with
 | zero =>
  intro j z vb c hk hj nB QN hS hR;have kH:j+1=n:=oo
  refine codeAny_builtin F.entry_min_loop ?_;rw[uu f' _];show wpAny _ A.in1 (seqItems? (.ref S)>>=_) _ _ z;refine ae (mE hS rfl ?_);show wpAny _ A.in1 (tryCatch (pyNext (.ref I)) _>>=_) _ _ z;refine ae (mB (W.done z _ _ (kH ▸ nB) fun h' tk s_=>?_));have q1:=s_ S _ QM hS;show wpAny _ A.in1 (updateSeq S (fun _=>#[])>>=_) _ _ _;refine ae ?_;refine wpAny_updateSeq q1 rfl (ae (wpAny_letGo (aI ?_)));exact hR vb _ tk (by rw[<- kH];exact QN) fun b o sA D_ e=>(Heap.get?_update_other _ _ (ba D_)).trans (s_ b o sA e)
 | succ k ih =>
  intro j z vb c hk hj nB QN hS hR;have fE:j+1<n:=oo
  refine codeAny_builtin F.entry_min_loop ?_;rw[uu f' _];show wpAny _ A.in1 (seqItems? (.ref S)>>=_) _ _ z;refine ae (mE hS rfl ?_);show wpAny _ A.in1 (tryCatch (pyNext (.ref I)) _>>=_) _ _ z;refine ae (mB (W.item (j+1) z _ _ fE nB fun v h' tk hP D1 s_=>?_));have q1:=s_ S _ QM hS;show wpAny _ A.in1 (tryCatch (holding [v,v] (richCompare .Lt v vb>>=_)) _>>=_) _ _ _;refine ae (mB (x3 (ae (IP (j+1) (argBest bt j) v vb _ _ _ hP QN ?_))));refine ae (x3 (c6 ?_));refine ae (wpAny_letGo (aI ?_));cases hb:bt (j+1) (argBest bt j)with
  | true =>
   simp only[i_];refine ae ?_;refine wpAny_updateSeq q1 rfl (ae (wpAny_letGo ?_));rw[q0];refine aI ⟨x4 f' _,ih (j+1) _ v _ oo fE (W.frame _ _ _ D1 fun b SE o e=>?_) (by simp only[argBest,hb,i_];exact hP) (Heap.get?_update_self _ q1 rfl) fun v' NU x_ NR AQ=>?_⟩
   ·exact(Heap.get?_update_other _ _ (fun y:S=b=>FC (by rw[y];exact SE))).trans e
   exact hR v' NU x_ NR fun b o sA D_ e=>AQ b o sA D_ ((Heap.get?_update_other _ _ (ba D_)).trans (s_ b o sA e))
  | false =>
   simp only[sk,mM];refine ae (wpAny_letGo ?_);rw[q0];refine aI ⟨x4 f' _,ih (j+1) _ vb c oo fE D1 (by simp only[argBest,hb,sk,mM];exact QN) q1 fun v' NU x_ NR AQ=>?_⟩;exact hR v' NU x_ NR fun b o sA D_ e=>AQ b o sA D_ (s_ b o sA e)
theorem Bj(W:Walks P0 w A.in1 I fp wr n P St)(bt:Nat->Nat->Bool)(IP:CmpOf P0 w A.in1 .Lt P bt)(S:Addr)(FC:S∉fp)(d:Value)(nB:St 0 z.heap)
  (hS:z.heap.get? S=some { cls:=.type "list",dict:=none,data:=.seq #[] c,slots:=#[] })
  (hR:0<n->∀ v h' tk,P (argBest bt (n-1)) v->(∀ b o,b∉wr->b≠S->z.heap.get? b=some o->h'.get? b=some o)->R (.ok (.ret v)) { z with heap:=h',toks:=tk })
  (hE:n=0->∀ h' tk,(∀ b o,b∉wr->b≠S->z.heap.get? b=some o->h'.get? b=some o)->R (.ok (.ret d)) { z with heap:=h',toks:=tk }):
  codeAny (model P0 w) A (.builtin "min.loop" ⟨[.ref I,.none,.ref S],[("default",d)]⟩) R z:=by
 have QM:S∉wr:=fun y=>FC (W.sub _ y)
 have q0:(toString "min"++toString ".loop" : String)="min.loop":=by decide
 refine codeAny_builtin F.entry_min_loop ?_;rw[uu f' _];show wpAny _ A.in1 (seqItems? (.ref S)>>=_) _ _ z;refine ae (mE hS rfl ?_);show wpAny _ A.in1 (tryCatch (pyNext (.ref I)) _>>=_) _ _ z
 by_cases hn:n=0
 ·refine ae (mB (W.done z _ _ (hn ▸ nB) fun h' tk s_=>?_))
  show wpAny _ A.in1 (rule _>>=_) _ _ _;refine ae (wpAny_rule (aI ?_));exact hE hn h' tk fun b o sA _ e=>s_ b o sA e
 have hn:0<n:=oo
 refine ae (mB (W.item 0 z _ _ hn nB fun v h' tk hP D1 s_=>?_));have q1:=s_ S _ QM hS;show wpAny _ A.in1 (updateSeq S (fun _=>#[v,v])>>=_) _ _ _;refine ae ?_;refine wpAny_updateSeq q1 rfl ?_;rw[q0];refine aI ⟨x4 f' _,Dv W bt IP S FC d _ 0 _ v _ rfl hn (W.frame _ _ _ D1 fun b SE o e=>?_) hP (Heap.get?_update_self _ q1 rfl) fun v' NU x_ NR AQ=>?_⟩
 ·exact(Heap.get?_update_other _ _ (fun y:S=b=>FC (by rw[y];exact SE))).trans e
 exact hR hn v' NU x_ NR fun b o sA D_ e=>AQ b o sA D_ ((Heap.get?_update_other _ _ (ba D_)).trans (s_ b o sA e))
end
theorem Dw(a v:Value):argsOk "min" ⟨[a],[(Str.ofString "default",v)]⟩:=by unfold argsOk;kernel_rfl
section
variable{l:Addr}{xs:Array (Int×Tok)}
theorem Dy{d:Value}(hh:A.handled=none)(hl:z.heap.IsList l (intItems xs))(h1:0<xs.size->∀ v h' tk,(intItems xs)[argBest (fun i j=>decide (numAt xs i<numAt xs j)) (xs.size-1)]?=some v->(∀ b o,z.heap.get? b=some o->h'.get? b=some o)->Q v { z with heap:=h',toks:=tk })(h0:xs.size=0->∀ h' tk,(∀ b o,z.heap.get? b=some o->h'.get? b=some o)->Q d { z with heap:=h',toks:=tk }): wpAny (model P0 w) A (call (.builtin "min") [.ref l] [(Str.ofString "default",d)]) Q E z:=by
 have q0:(toString "min"++toString ".loop" : String)="min.loop":=by decide
 refine PyProof.Rows.kmk_tree F.kind_min F.plain_min F.entry_min (Dw _ _) ?_;show wpAny _ A.in1 (Builtin.Builtins.bindParams "min" ["key","default"] 0 ⟨[],[(Str.ofString "default",d)]⟩>>=_) _ _ z;refine ae (wpAny_of_eq (show Builtin.Builtins.bindParams "min" ["key","default"] 0 ⟨[],[(Str.ofString "default",d)]⟩=pure [none,some d]from rfl) ?_);refine ae (aI ?_);refine ae (iter_intList hl fun s₂ e st hfp hlI=>?_);subst e;refine ae (fg ?_);have hsz:(intItems xs).size=xs.size:=by simp[intItems]
 have W:=Walks.list (prog:=P0) (w:=w) (A:=A.in1) hh z.heap.objs.size l hlI (intItems xs);have FC:(z.heap.push { cls:=.type "list_iterator",data:=.fields #[.ref l,.int 0 0] }).objs.size∉[z.heap.objs.size,l]:=fun hm=>cK _ (hfp _ hm)
 rw[q0];refine aI ⟨x4 f' _,Bj W _ (CmpOf.ints_lt (numAt xs) (fun _ _=>t5)) _ FC d (W.frame _ _ _ st fun b _ o e=>Heap.get?_push_of_some _ e) (Heap.get?_push_size _ rfl) (fun hn v h' tk hP hk=>?_) (fun hn h' tk hk=>?_)⟩
 ·refine h1 (by rw[<- hsz];exact hn) v h' tk (by rw[<- hsz];exact hP) (old_kept fun b o sA e=>hk b o sA (b4 (ay e)) (Heap.get?_push_of_some _ e))
 exact h0 (by rw[<- hsz];exact hn) h' tk (old_kept fun b o sA e=>hk b o sA (b4 (ay e)) (Heap.get?_push_of_some _ e))
end
end PySem
namespace L2
open PySem PySem.Spec PyProof.Rows
def O3(K:W.Frag)(tl:TE):TE:=fun σ H Q=>tl σ H fun x H1=>∃(p:Addr)(ns:List Int),x=.ref p/\SqL K H1 p (ns.map V.int)/\(ns=[]->Q .non H1)/\∀ M,M∈ns->(∀ a∈ns,M<=a)->Q (.int M) H1
theorem Kg{kp dp:Pos}  {l:Expr}  (hc:X.calm=true) (hl:PE X l tl) (hm:X.mg "min"=none) (hg:X.env.scope.names.lookup ("min":Str)=some .globalImplicit:=by kernel_rfl)
  (he:starEach [l] X.env=(false,eval l X.env):: starEach [] X.env:=by rfl):
  PE X (.Call (.Name "min" p) [l] [⟨some "default",.Constant .none j dp,kp⟩] fq) (O3 X.K tl):=by
 intro pins s σ H Q I h;refine ek (j6 I hg hm Bt.min ?_ odz odz);refine callWith_kw ?_ (by rw[he];rfl) (by rw[he];rfl) rfl rfl;have h':vB tl oF σ H (fun vs H1=>match vs with | [x]=>∃(p:Addr)(ns:List Int),x=.ref p/\SqL X.K H1 p (ns.map V.int)/\(ns=[]->Q .non H1)/\∀ M,M∈ns->(∀ a∈ns,M<=a)->Q (.int M) H1|_=>False):=h;refine thn ((aa hl aj he) fq pins s σ H _ I h') fun us s1 ⟨vs,H1,I1,r1,q1⟩=>?_
 obtain⟨x,rfl⟩:∃ x,vs=[x]:=by
  match vs,q1 with
  |[x],_=>exact⟨x,Z⟩
 obtain⟨a,ns,rfl,hp,q0,q⟩:=q1;obtain⟨u,rfl,ru⟩:=vals1 r1;cases ru;refine kws_cons (thn (bK pins s1 σ H1 (fun x H2=>x=.non /\ H2=H1) I1 ⟨rfl,rfl⟩) fun dv s2 ⟨x,H2,I2,r2,ex,eH⟩=>kws_nil ?_);subst ex eH;cases r2;have I1:=I2;obtain⟨its,rv,pl,hz⟩:=I1.list hp;have hi:=intsAre_of rv;have hh:X.A.handled=none:=I1.ok.hd hc;obtain⟨xs,e⟩:=hi.allInts.items
 have nE:ns=xs.toList.map (·.1):=by
  rw[<- hi.numsOf,<- x6,<- e]
 have hlen:ns.length=xs.size:=by rw[nE,dS,ag]
 have hl:=pl.isList;rw[e]at hl;refine Dy hh hl (fun hn v h' tk hv hk=>?_) (fun hn h' tk hk=>?_)
 ·obtain⟨t,rfl⟩:=t5 hv
  obtain⟨h1,h2⟩:=argBest_lt (numAt xs) (xs.size-1);refine⟨.int _,_,I1.kept (t':=tk) hk,⟨t,Z⟩,q _ ?_ fun b hb=>?_⟩
  ·rw[nE,t4];exact getD_mem (by rw[dS,ag];exact oo)
  rw[nE]at hb;obtain⟨m,hm,rfl⟩:=mem_getD hb;rw[dS,ag]at hm;rw[<- t4];exact h2 m oo
 exact⟨.non,_,I1.kept (t':=tk) hk,Z,q0 (x8 oo)⟩
theorem Bk:iX X (binaryOp .Mult) (fun x y H Q=>∃ z n,x=.str z/\y=.int n/\z.length<=1000/\-1000<=n/\n<=1000/\Q (.str (Txt.mul z n)) H):=by
 intro pins s σ H x y v u Q I rx ry h;obtain⟨z,n,rfl,rfl,hz,h1,h2,q⟩:=h;obtain⟨t,rfl⟩:=rx;obtain⟨t',rfl⟩:=ry;exact SB.mul (mulOk_of 1000 1000 hz h2 oo odz odz) fun t' k=>⟨.str _,H,I.tok _,⟨t',rfl⟩,q⟩
theorem bits_fit{a n:Int}(ha:a.natAbs<2^1024)(hn:n<=1000000):(Builtin.Int.intBits a:Int)+n<=2^27:=by
 have h:Builtin.Int.intBits a<=1024:=intBits_le ha;exact oo
def tO(i j:Int):Prop:=0<=j/\j<=1000000/\i.natAbs<2^1024
theorem ji:iX X (binaryOp .LShift) (rI tO fun i j=>.int (i*2^j.toNat)):=HI fun _ _ _ _ _ _ _ hc q=>lshift_int hc.1 (bits_fit hc.2.2 hc.2.1) q
theorem Dz:sC X "int.bit_length" (fun x vs H Q=>∃ i,x=.int i/\vs=[]/\Q (.int (Builtin.Int.intBits i)) H):=by
 intro pins s σ H y vs v us Q I ry r h;obtain⟨i,rfl,rfl,q⟩:=h;obtain⟨t,rfl⟩:=ry;cases r;exact call_int_bit_length ⟨.int _,H,I.tok _,⟨_,rfl⟩,q⟩
end L2
namespace PySem
open Sem (wp)
open Builtin
open AutoSeq1 (wpAny_loadPart')
theorem vp(l:Addr)(its:List Value)(n:Nat)(dd:Option Addr)(sl:Array (Option Value))(k:Int)(u:Tok)(h1:2<=k)(h2:k<2^63)(g7:its.toArray.isEmpty=false)(hz:its.toArray.size*k.toNat<=sizeLine): Meets (Builtin.«tuple.__mul__» ⟨[.ref l,.int k u],[]⟩) (fun _ R s=>s.heap.get? l=some { cls:=.type "tuple",dict:=dd,data:=.seq its.toArray n,slots:=sl }/\R (.ok (.ret (Value.ref s.heap.objs.size))) { s with heap:=s.heap.push { cls:=Value.type "tuple",data:=Data.seq (List.replicate k.toNat its).flatten.toArray },toks:=s.toks }):=
 .of_wp fun prog w A R s h=>by
  obtain⟨hp,g,d,tk,os⟩:=s;obtain⟨hl,h⟩:=h;have c1:(k < -(2^63)||k ≥ 2^63)=false:=by simp;exact oo
  have c2:(its.toArray.isEmpty||k==1)=false:=by rw[g7];simp;exact oo
  have c3:(k<=0||its.toArray.isEmpty)=false:=by rw[g7];simp;exact oo
  have Vb:((its.toArray.size:Int)*k)=((its.toArray.size*k.toNat:Nat):Int):=by
   have e:k=((k.toNat:Nat):Int):=oo
   conv=>lhs;rw[e]
   rw[<- nS]
  have hsl:(sizeLine:Nat)<=(2^63-1)/8:=by decide
  have QU:((2:Int)^63-1)/8=(((2^63-1)/8:Nat):Int):=by decide
  have c4:decide ((its.toArray.size:Int)*k>(2^63-1)/8)=false:=gp (by rw[Vb,QU];exact oo)
  wp_walk using dQ hl
  refine iN (by rw[c1];rfl) ?_
  wp_walk using dQ hl
  refine iN (by rw[c2];rfl) ?_
  wp_walk using dQ hl
  refine iN (by rw[c3];rfl) ?_
  wp_walk using dQ hl
  refine iN c4 ?_
  wp_walk using dQ hl
  have c5:Tuple.tupleTooMany ((its.toArray.size:Int)*k)=false:=by
   unfold Tuple.tupleTooMany;rw[Vb];exact gp oo
  refine iN (by rw[c5];rfl) ?_
  wp_walk using dQ hl
  have f0:List.foldl (fun x1 x2=>x1++x2) #[] (List.replicate k.toNat its.toArray)=(List.replicate k.toNat its).flatten.toArray:=by
   have:=L2.foldl_rep its k.toNat [];rw[Bi]at this;exact this
  rw[f0];refine iN (gp (by rw[ah,L2.len_rep,kz];rw[ah]at hz;exact oo)) ?_
  wp_walk using dQ hl
  exact⟨_,Z,h⟩
theorem qN:fillsNumberSlot (.type "tuple") "mul"=pure false :=
 fillsNumberSlot_seq (id := "tuple.__mul__") (r:=some (.builtin "tuple.__rmul__")) F.slot_tuple_mul.lookup dk F.slot_tuple_rmul.lookup dk
theorem wN:seqRepeat? (.type "tuple")=pure (some (.builtin "tuple.__mul__")):=by
 unfold seqRepeat?;rw[seqSlot_of (T := "tuple") (name := "__mul__") (id := "tuple.__mul__") F.slot_tuple_mul.lookup dk,seqSlot_of (T := "tuple") (name := "__rmul__") (id := "tuple.__rmul__") F.slot_tuple_rmul.lookup dk]
 rfl
theorem tQ(a:Int)(t:Tok)(l:Addr)(items:Array Value)(n:Nat)(dd:Option Addr)(sl:Array (Option Value)): Meets (Builtin.«int.__rmul__» ⟨[.int a t,.ref l],[]⟩) (fun _ R s=>s.heap.get? l=some { cls:=.type "tuple",dict:=dd,data:=.seq items n,slots:=sl }/\R (.ok (.ret Value.notImplemented)) s):=
 .of_wp fun prog w A R s h=>by obtain⟨hp,g,d,tk,os⟩:=s;obtain⟨hl,h⟩:=h;wp_walk;exact⟨_,Z,h⟩
end PySem
namespace L2
open PySem PyProof.Rows
inductive L4(K:W.Frag)(x:V)(y:V)(H:Hp)(Q:VK):Prop
 |mk(a:Addr)(k:Int)(xs:List V)(_:x=.ref a)(_:y=.int k)(_:SqT K H a xs)(_:xs≠[])(_:2<=k)(_:k<2^63)(_:xs.length*k.toNat<=sizeLine)(_:∀ p,H p=none->Q (.ref p) (upd H p (.tup (List.replicate k.toNat xs).flatten)))
theorem Kh:iX X (binaryOp .Mult) (L4 X.K):=by
 intro pins s σ H x y v u Q I rx ry h;obtain⟨a,k,xs,rfl,rfl,ha,g7,h1,h2,hz,q⟩:=h;cases rx;obtain⟨t,rfl⟩:=ry;obtain⟨its,r,p1,hl⟩:=I.tuple ha;have hlen:its.length=xs.length:=r.length.symm;have hi:its≠[]:=fun z=>g7 (r.nz.mp z)
 obtain⟨⟨cls,dd,data,sl⟩,ho,hc,n,hd⟩:=id p1;simp only at hc hd;subst hc hd;have _3:its.toArray.size*k.toNat<=sizeLine:=by rw[ah,hlen];exact hz
 refine wpAny_binaryOp_repeat_ref (T := "tuple") (U := "int") odz ⟨_,ho,rfl⟩ (fun s'=>AY s' k t) qN F.fills_int_mul qr wN F.slot_int_index.lookup
  (fv qr (AY s k t) F.entry_int_rmul (F.args_int_rmul_2 _ _) (tQ k t a its.toArray n dd sl)
   ⟨ho,rfl,⟨_,ho,rfl⟩,fv F.slot_tuple_mul ⟨_,ho,rfl⟩ F.entry_tuple_mul (F.args_tuple_mul_2 _ _) (vp a its n dd sl k t h1 h2 (by cases its with
    |nil=>exact absurd rfl hi
    |cons x r=>rfl) _3) ⟨ho,?_⟩⟩)
 refine⟨.ref s.heap.objs.size,_,I.laid (t':=s.toks) (o:=.tup (List.replicate k.toNat xs).flatten) (fun b ob q=>Heap.get?_push_of_some _ q) (qnr _) ?_,Z,q _ (I.hok.fresh (qnr _))⟩;exact⟨by rw[len_rep,kz];exact hz,_,r.rep k.toNat,iA.new _ _⟩
open PySem PySem.Spec PyProof.Rows
theorem all_strs(ns ms:List Str):((List.range (min ns.length ms.length)).all (fun j=>ns.getD j ⟨#[]⟩ == ms.getD j ⟨#[]⟩)&&ns.length==ms.length)=decide (ns=ms):=by
 by_cases h:ns=ms
 ·subst h
  rw[cS rfl];simp
 rw[gp h];cases hl:(ns.length==ms.length)with
 |false=>simp
 | true =>
  have hl:ns.length=ms.length:=by simpa using hl
  rw[qA];refine iL.mpr fun z=>h (List.ext_getElem hl fun j h1 h2=>?_)
  have:=cm.mp z j (eI.mpr oo);have this:ns.getD j ⟨#[]⟩=ms.getD j ⟨#[]⟩:=by simpa using this
  rw[List.getD,List.getD,List.getElem?_eq_getElem h1,List.getElem?_eq_getElem h2]at this;exact this
theorem yO(r:Vals (ns.map V.str) us):us.length=ns.length/\∀(j:Nat)(h:j<us.length),∃ t,us[j]=.str (ns.getD j ⟨#[]⟩) t:=by
 have hl:us.length=ns.length:=by
  have:=r.length;rw[dS]at this;exact this.symm
 refine⟨hl,fun j h=>?_⟩;have hj:j<ns.length:=oo
 obtain⟨u,hu,ru⟩:=r.get (i:=j) (x:=V.str ns[j]) (by rw[kT,List.getElem?_eq_getElem hj];rfl);obtain⟨t,rfl⟩:=ru;refine⟨t,?_⟩;rw[List.getElem?_eq_getElem h]at hu;rw[iE hu,List.getD,List.getElem?_eq_getElem hj]
 rfl
inductive L5(K:W.Frag)(x:V)(y:V)(H:Hp)(Q:VK):Prop
 |mk(a b:Addr)(ns ms:List Str)(_:x=.ref a)(_:y=.ref b)(_:SqT K H a (ns.map V.str))(_:SqT K H b (ms.map V.str))(_:Q (.bl (!decide (ns=ms))) H)
theorem yP(hu:X.A.units<cLine):iX X (compareOp .NotEq) (L5 X.K):=by
 intro pins s σ H x y v u Q I rx ry h;obtain⟨a,b,ns,ms,rfl,rfl,ha,hb,q⟩:=h;cases rx;cases ry;obtain⟨its,r1,p1,_⟩:=I.tuple ha;obtain⟨nh,r2,p2,_⟩:=I.tuple hb;obtain⟨l1,i1⟩:=yO r1;obtain⟨l2,i2⟩:=yO r2;refine SeqAt.RcNeAt.tuples (e:=fun j=>ns.getD j ⟨#[]⟩ == ms.getD j ⟨#[]⟩) p1 p2 hu (fun j h1 h2=>?_) _ _ _ _ ?_
 ·obtain⟨t1,e1⟩:=i1 j (by simpa using h1)
  obtain⟨t2,e2⟩:=i2 j (by simpa using h2);have e1':its.toArray[j]=.str (ns.getD j ⟨#[]⟩) t1:=by simpa using e1
  have B_:nh.toArray[j]=.str (ms.getD j ⟨#[]⟩) t2:=by simpa using e2
  rw[e1',B_];exact SeqAt.EqAt.str_str _ _ _ _
 rw[show its.toArray.size=ns.length by simpa using l1,show nh.toArray.size=ms.length by simpa using l2,all_strs];exact⟨.bl (!decide (ns=ms)),H,I,Z,q⟩
inductive HC(K:W.Frag)(f:Bool->Bool)(x:V)(y:V)(H:Hp)(Q:VK):Prop
 |mk(a b:Addr)(xs:List V)(_:x=.ref a)(_:y=.ref b)(_:SqL K H a xs)(_:SqL K H b [])(_:Q (.bl (f xs.isEmpty)) H)
theorem km(hu:X.A.units<cLine):iX X (compareOp .Eq) (HC X.K id):=by
 intro pins s σ H x y v u Q I rx ry h;obtain⟨a,b,xs,rfl,rfl,ha,hb,q⟩:=h;cases rx;cases ry;obtain⟨its,r1,p1,_⟩:=I.list ha;obtain⟨nh,r2,p2,_⟩:=I.list hb;cases r2;cases r1 with
 | nil =>
  refine SeqAt.eq_listAt (e:=fun _=>true) p1.isList p2.isList rfl hu (fun j h1 _=>absurd h1 (Nat.not_lt_zero j)) ?_;exact⟨.bl true,H,I,Z,q⟩
 |cons r t=>exact SeqAt.eq_list_lengthsAt p1.isList p2.isList oz hu ⟨.bl false,H,I,rfl,q⟩
theorem _q{P:List Value->Prop}(h:P []):∀ us:List Value,us.length=0->P us
 |[],_=>h
theorem Pw{P:List Value->Prop}(h:∀(a:Value)(us:List Value),us.length=n->P (a::us)):∀ us:List Value,us.length=n+1->P us
 |a::us,e=>h a us (Nat.succ.inj e)
theorem Ra{P:List Value->Prop}(h:∀ a,P [a]):∀ us:List Value,us.length=1->P us:=Pw fun a=>_q (P:=fun us=>P (a::us)) (h a)
theorem FR{P:List Value->Prop}(h:∀ a b,P [a,b]):∀ us:List Value,us.length=2->P us:=Pw fun a=>Ra (P:=fun us=>P (a::us)) (h a)
theorem Q_{P:List Value->Prop}(h:∀ a b c,P [a,b,c]):∀ us:List Value,us.length=3->P us:=Pw fun a=>FR (P:=fun us=>P (a::us)) (h a)
theorem UM{P:List Value->Prop}(h:∀ a b c d,P [a,b,c,d]):∀ us:List Value,us.length=4->P us:=Pw fun a=>Q_ (P:=fun us=>P (a::us)) (h a)
section
variable{k:Nat}{E:XK}{o:Expr}{t:TA}
theorem Jt(M:Mk X.K C f)(F:fF X.prog X.w X.K X.mg X.base CX k f fd ps sp)(hr:eW (k+1) X.A)(hm:X.mg x=some (.ref C))(hb:Binds X.K fd ps [])(hx:dM CX X E)(ha:PA X (e::es) t)
  (hg:X.env.scope.names.lookup x=some .globalImplicit:=by kernel_rfl) (kg:(x==("__debug__":Str))=false:=by kernel_rfl) (he:starEach (e::es) X.env=(false,eval e X.env):: starEach es X.env:=by rfl) (gI:(backTo pos (starEach es X.env)).any (·.1)=false:=by rfl):
  PE X (.Call (.Name x p) (e::es) [] pos) (vD C sp [] E t):=J2 M F hr hg hm hb .nil hx ha kg he gI
end
def O4(K:W.Frag):List V->Hp->VK->Prop:=fun xs H Q=>∃(p:Addr)(ns:List Int),xs=[.ref p]/\SqT K H p (ns.map V.int)/\0<ns.length/\∀ M,M∈ns->(∀ a∈ns,M<=a)->Q (.int M) H
theorem DG(hc:X.calm=true):dN X (.builtin "min") (O4 X.K):=by
 intro pins s σ H xs us Q I r h;obtain⟨p,ns,rfl,hp,g7,q⟩:=h;obtain⟨u,rfl,ru⟩:=vals1 r;cases ru;obtain⟨its,rv,pl,hz⟩:=I.tuple hp;have hi:=intsAre_of rv;have hh:X.A.handled=none:=I.ok.hd hc;obtain⟨xs,e⟩:=hi.allInts.items;have nE:ns=xs.toList.map (·.1):=by rw[<- hi.numsOf,<- x6,<- e]
 have hsz:0<xs.size:=by
  have h3:=g7;rw[nE,dS,ag]at h3;exact h3
 have hl:s.heap.IsTuple p its.toArray:=pl;rw[e]at hl
 have fE:p<s.heap.objs.size:=by
  obtain⟨_,e1,_⟩:=hl;exact ay e1
 refine call_min_walk (i3 hl ?_);refine⟨_,_,_,_,_,_,_,Z,Walks.tuple (A:=X.A.in1) hh s.heap.objs.size p (b4 fE) (intItems xs),⟨⟨_,Heap.get?_push_size _ rfl,Z,Z⟩,hl.on fun o q=>Heap.get?_push_of_some _ q⟩,fun b hb=>?_,by simpa[intItems]using hsz,CmpOf.ints_lt (numAt xs) (fun _ _=>t5),fun v h' tk hP hk=>?_⟩
 ·show b<(s.heap.push _).objs.size
  rw[j'];rcases av.mp hb with rfl|hb
  ·exact mT _
  rw[ar.mp hb];exact ly fE
 have hv:(intItems xs)[argBest (fun i j=>decide (numAt xs i<numAt xs j)) (xs.size-1)]?=some v:=by simpa[intItems]using hP
 have s_:∀ b o,s.heap.get? b=some o->h'.get? b=some o:=fun b o e1=>hk b o (fun z=>by
  rw[ar.mp z]at e1
  exact absurd (ay e1) (cK _)) (Heap.get?_push_of_some _ e1)
 obtain⟨t,rfl⟩:=t5 hv;obtain⟨h1,h2⟩:=argBest_lt (numAt xs) (xs.size-1);refine⟨.int _,H,I.kept (t':=tk) s_,⟨t,Z⟩,q _ ?_ fun a ha=>?_⟩
 ·rw[nE,t4]
  exact getD_mem (by rw[dS,ag];exact oo)
 rw[nE]at ha;obtain⟨j,hj,rfl⟩:=mem_getD ha;rw[dS,ag]at hj;rw[<- t4];exact h2 j oo
end L2
namespace PySem
open Sem (wp)
open AutoSeq1 (wpAny_loadPart')
namespace RvT
def obj(l:Addr)(i:Int):Obj:={ cls:=.type "reversed",data:=.fields #[.ref l,rawInt i] }
end RvT
end PySem
namespace L2
open PySem PyProof.Rows
theorem ye:iX X (compareOp .NotIn) (fun x y H Q=>∃ a b,x=.str a/\y=.str b/\Q (.bl (!Txt.contains b a)) H):=by
 intro pins s σ H x y v u Q I rx ry h;obtain⟨a,b,rfl,rfl,q⟩:=h;obtain⟨t,rfl⟩:=rx;obtain⟨t',rfl⟩:=ry;exact SB.notContains ⟨.bl _,H,I,rfl,q⟩
inductive z_(K:W.Frag)(y:V)(vs:List V)(H:Hp)(Q:VK):Prop
 |mk(p:Addr)(xs:List V)(x:V)(_:y=.ref p)(_:vs=[x])(_:SqL K H p xs)(_:eZ x=true)(_:xs.all eZ=true)(_:∀ j:Nat,j<=xs.length->j=xs.countP (fun z=>l9 z x)->Q (.int j) H)
theorem Bl{x:V}(r:Vals xs us)(f:xs.all eZ=true):us.countP (o_ x)=xs.countP (fun z=>l9 z x):=by
 induction r with
 |nil=>rfl
 | @cons y v ys vs rv t ih =>
  rw[js,dE]at f;rw[fi,fi,ih f.2,rM rv f.1]
theorem GR:sC X "list.count" (z_ X.K):=by
 intro pins s σ H y vs v us Q I ry r h;obtain⟨p,xs,x,rfl,rfl,hp,fx,fs,q⟩:=h;cases ry;obtain⟨u,rfl,ru⟩:=vals1 r;obtain⟨its,rv,pl,hz⟩:=I.list hp;obtain⟨⟨cls,dd,data,sl⟩,n,ho,hc,NG,hd2⟩:=pl;simp only at hc NG hd2;subst hc NG hd2
 refine fv PySem.F.slot_list_count ⟨_,ho,rfl⟩ PySem.F.entry_list_count (PySem.F.args_list_count_2 _ _)
  (SeqAt.list_countAt p its.toArray n none sl u (o_ x)) ⟨ho,fun y hy=>iu ru fx rv fs y (by simpa using hy),⟨.int _,H,I.tok _,⟨_,rfl⟩,?_⟩⟩
 have e:its.toArray.toList.countP (o_ x)=xs.countP (fun z=>l9 z x):=by
  rw[<- Bl rv fs]
 rw[e];exact q _ (List.countP_le_length) rfl
end L2
namespace PySem
open PyProof.Rows
namespace StB
def It(h:Heap)(I:Addr)(first:Value)(i:Nat)(S:Addr)(n ep:Nat):Prop:=∃ o,h.get? I=some o/\o.cls=.type "set_iterator"/\o.data=.fields #[first,rawInt (i:Int),.ref S,rawInt (n:Int),rawInt (ep:Int)]
end StB
end PySem
namespace L2
open PySem PySem.Spec PyProof.Rows
theorem vq:sC X "str.startswith" (fun x vs H Q=>∃ z y,x=.str z/\vs=[.str y]/\Q (.bl (Txt.startswith z y)) H):=by
 intro pins s σ H x vs v us Q I rx r h;obtain⟨z,y,rfl,rfl,q⟩:=h;obtain⟨t,rfl⟩:=rx;obtain⟨u,rfl,t',rfl⟩:=vals1 r;exact SC.startswith ⟨.bl _,H,I,rfl,q⟩
theorem oR:sC X "str.strip" (fun x vs H Q=>∃ z y,x=.str z/\vs=[.str y]/\z.length<=sizeLine/\Q (.str (Txt.stripChars z y)) H):=by
 intro pins s σ H x vs v us Q I rx r h;obtain⟨z,y,rfl,rfl,hz,q⟩:=h;obtain⟨t,rfl⟩:=rx;obtain⟨u,rfl,t',rfl⟩:=vals1 r;exact SC.stripChars (fun t' k=>⟨.str _,H,I.tok _,⟨_,rfl⟩,q⟩) hz
theorem Bm:sC X "str.lstrip" (fun x vs H Q=>∃ z y,x=.str z/\vs=[.str y]/\z.length<=sizeLine/\Q (.str (Txt.lstripChars z y)) H):=by
 intro pins s σ H x vs v us Q I rx r h;obtain⟨z,y,rfl,rfl,hz,q⟩:=h;obtain⟨t,rfl⟩:=rx;obtain⟨u,rfl,t',rfl⟩:=vals1 r;exact SC.lstripChars (fun t' k=>⟨.str _,H,I.tok _,⟨_,rfl⟩,q⟩) hz
theorem uI:∀(l:List (Str×Tok)),Vals (l.map fun p=>V.str p.1) (strValues l)
 |[]=>.nil
 |p::r=>.cons ⟨p.2,rfl⟩ (uI r)
theorem wO:sC X "str.split" (fun x vs H Q=>∃ z y,x=.str z/\vs=[.str y]/\¬y.length=0/\z.length<sizeLine/\(Txt.split z y).length <= sizeLine/\∀ p,H p=none->Q (.ref p) (upd H p (.lst ((Txt.split z y).map V.str)))):=by
 intro pins s σ H x vs v us Q I rx r h;obtain⟨z,y,rfl,rfl,hy,hz,hn,q⟩:=h;obtain⟨t,rfl⟩:=rx;obtain⟨u,rfl,t',rfl⟩:=vals1 r;have P6:(y.length==0)=false:=by simpa using hy
 have fin:∀(l:List (Str×Tok)) (k:Nat),l.map (·.1)=Txt.split z y->EP X pins σ Q (.ref s.heap.objs.size) { s with toks:=k,heap:=s.heap.push { cls:=.type "list",data:=.seq (strValues l).toArray } }:=fun l k e=>by
  have e2:(l.map fun p=>V.str p.1)=(Txt.split z y).map V.str:=by rw[<- e,eD];rfl
  have rv:=uI l;rw[e2]at rv;exact⟨.ref _,_,I.HV (t':=k) rv (by rw[dS];exact hn),Z,q _ I.fresh⟩
 cases h1:(decide (z.length<y.length)||decide (Builtin.Str.strKind z<Builtin.Str.strKind y))
 ·cases hf:(Builtin.Str.occurrences z y 0 z.length (z.length+1)).isEmpty
  ·have e1:Txt.split z y=Builtin.Str.partsBetween z (Builtin.Str.occurrences z y 0 z.length (z.length+1)) y.length:=(bq (px h1)).trans (bq (px hf))
   refine fv F.slot_str_split (mI _ _ _) ER (BA _ _) (meets_str_split_sep z y t t' h1 P6 hf (kA hz) (by rw[<- e1];exact hn)) ?_;show wants _ _ _ { s with toks:=_,heap:=s.heap.push { cls:=.type "list",data:=.seq (strsFrom s.toks (Builtin.Str.partsBetween z (Builtin.Str.occurrences z y 0 z.length (z.length+1)) y.length)).toArray } };rw[strsFrom_eq];exact fin _ _ ((numbered_texts _ _).trans e1.symm)
  exact fv F.slot_str_split (mI _ _ _) ER (BA _ _) (meets_str_split_not_found z y t t' h1 P6 hf)
   (fin [(z,t)] s.toks ((bq (px h1)).trans (b6 hf)).symm)
 exact fv F.slot_str_split (mI _ _ _) ER (BA _ _) (meets_str_split_cannot_occur z y t t' h1) (fin [(z,t)] s.toks (b6 h1).symm)
def cH(c:Nat):List Nat->List Nat
 |[]=>[]
 |d::r=>if d=c then []else d::cH c r
def cj(c:Nat):List Nat->List Nat
 |[]=>[]
 |d::r=>if d=c then r else cj c r
theorem uJ{c:Nat}:∀{l:List Nat},(∀ i:Nat,l[i]?≠some c)->cH c l=l/\cj c l=[]
 |[],_=>⟨rfl,rfl⟩
 | d::r,h=>by
  have h1:¬d=c:=fun e=>h 0 (by rw[e];rfl)
  obtain⟨e1,e2⟩:=uJ (l:=r) fun i=>h (i+1)
  show(if d=c then []else d::cH c r)=_/\(if d=c then r else cj c r)=_;rw[bq h1,bq h1,e1,e2];exact⟨Z,Z⟩
theorem yQ{c:Nat}:∀{l:List Nat}{i:Nat},l[i]?=some c->(∀ k,k<i->l[k]?≠some c)->cH c l=l.take i/\cj c l=l.drop (i+1)
 |[],i,h,_=>by simp at h
 | d::r,0,h,_=>by
  have e:d=c:=by simpa using h
  show(if d=c then []else d::cH c r)=_/\(if d=c then r else cj c r)=_;rw[b6 e,b6 e];exact⟨Z,Z⟩
 | d::r,i+1,h,hn=>by
  have h1:¬d=c:=fun e=>hn 0 oo (by rw[e];rfl)
  obtain⟨e1,e2⟩:=yQ (l:=r) (i:=i) h fun k hk=>hn (k+1) oo
  show(if d=c then []else d::cH c r)=_/\(if d=c then r else cj c r)=_;rw[bq h1,bq h1,e1,e2];exact⟨Z,Z⟩
theorem kI:sC X "str.partition" (fun x vs H Q=>∃(z y:Str) (c:Nat),x=.str z/\vs=[.str y]/\y=⟨#[c]⟩/\z.length<=sizeLine /\ ∀ p (b:Str),H p=none->Q (.ref p) (upd H p (.tup [.str ⟨(cH c z.cps.toList).toArray⟩,.str b,.str ⟨(cj c z.cps.toList).toArray⟩]))):=by
 intro pins s σ H x vs v us Q I rx r h;obtain⟨z,y,c,rfl,rfl,hy,hz,q⟩:=h;subst hy;obtain⟨t,rfl⟩:=rx;obtain⟨u,rfl,t',rfl⟩:=vals1 r
 have mk:∀(l:List Nat)(w:Str),w.cps.toList=l->(⟨l.toArray⟩:Str)=w:=fun l w e=>by
  cases w;rw[<- e]
 refine fv F.slot_str_partition (mI _ _ _) F.entry_str_partition (F.args_str_partition_2 _ _) (meets_str_partition z ⟨#[c]⟩ t t' rfl hz) ?_;rcases StrLaws.occ_head z ⟨#[c]⟩ 1 (qnr 1)with⟨h0,hn⟩|⟨i,rr,h0,hi,hn⟩
 ·rw[h0]
  obtain⟨e1,e2⟩:=uJ (c:=c) (l:=z.cps.toList) fun j hj=>hn j ((jS z c j).mpr hj)
  have q':=q s.heap.objs.size Str.empty I.fresh;rw[mk (cH c z.cps.toList) z e1.symm,mk (cj c z.cps.toList) Str.empty (by rw[e2];rfl)]at q';exact⟨.ref _,_,I.laid (o:=.tup [.str z,.str Str.empty,.str Str.empty]) (t':=s.toks+1) (fun b u e=>Heap.get?_push_of_some _ e) (qnr _) ⟨(by show 3<=sizeLine;decide),_,.cons ⟨_,Z⟩ (.cons ⟨_,Z⟩ (.cons ⟨_,Z⟩ .nil)),iA.new _ _⟩,Z,q'⟩
 rw[h0];have hm:=(jS z c i).mp hi;obtain⟨e1,e2⟩:=yQ hm fun k hk e=>hn k hk ((jS z c k).mpr e)
 have q':=q s.heap.objs.size ⟨#[c]⟩ I.fresh
 rw[mk (cH c z.cps.toList) (Builtin.Str.strSub z 0 i) (by rw[e1,ki];simp),mk (cj c z.cps.toList) (Builtin.Str.strSub z (i+1) z.length) (by
  rw[e2,ki]
  exact fe (by simp[Str.length]))]at q'
 exact⟨.ref _,_,I.laid (o:=.tup [.str (Builtin.Str.strSub z 0 i),.str ⟨#[c]⟩,.str (Builtin.Str.strSub z (i+1) z.length)]) (t':=s.toks+1+1) (fun b u e=>Heap.get?_push_of_some _ e) (qnr _) ⟨(by show 3<=sizeLine;decide),_,.cons ⟨_,Z⟩ (.cons ⟨_,Z⟩ (.cons ⟨_,Z⟩ .nil)),iA.new _ _⟩,Z,q'⟩
theorem gF:dN X (.type "str") (fun xs H Q=>∃ i:Int,xs=[.int i]/\i.natAbs.log2<1920/\Q (.str (toString i:String)) H):=by
 intro pins s σ H xs us Q I r h;obtain⟨i,rfl,hi,q⟩:=h;obtain⟨u,rfl,t,rfl⟩:=vals1 r;exact P.str_of_int hi ⟨.str _,H,I.tok _,⟨_,rfl⟩,q⟩
end L2
namespace PySem
open Sem (wp)
def gb(cs:List Nat):Nat:=cs.foldl (fun a c=>a*10+(c-48)) 0
theorem m6(p:Nat->Bool){l:List Nat}(h:∀ c∈l,p c=false):(l.reverse.dropWhile p).reverse=l:=by
 have e:l.reverse.dropWhile p=l.reverse:=by
  cases hl:l.reverse with
  |nil=>rfl
  | cons a b =>
   have ha:a∈l:=by
    have:a∈l.reverse:=by rw[hl];exact qms
    simpa using this
   rw[kR (by rw[h a ha];decide)]
 rw[e,dr]
theorem lE(p:Nat->Bool){l:List Nat}(h:∀ c∈l,p c=false):l.dropWhile p=l:=by
 cases l with
 |nil=>rfl
 |cons a b=>rw[kR (by rw[h a qms];decide)]
theorem jD{f:Array Nat×Bool->Nat->Option (Array Nat×Bool)}(hf:∀ ds b c,48<=c->c<=57->f (ds,b) c=some (ds.push (c-48),true)):∀(cs:List Nat)(ds:Array Nat)(b:Bool),(∀ c∈cs,48<=c/\c<=57)->List.foldlM (m:=Option) f (ds,b) cs=some (ds++(cs.map (· - 48)).toArray,b || !cs.isEmpty)
 |[],ds,b,_=>by simp
 | c::r,ds,b,h=>by
  rw[List.foldlM_cons,hf ds b c (h c qms).1 (h c qms).2];show List.foldlM (m:=Option) f (ds.push (c-48),true) r=_;rw[jD hf r _ _ fun d hd=>h d (k8 _ hd)];simp
theorem cU(h1:48<=c)(h2:c<=57):c=48\/c=49\/c=50\/c=51\/c=52\/c=53\/c=54\/c=55\/c=56\/c=57:=oo
theorem DK:typeLookup (.type "str") "__int__"=pure none:=by rw[typeLookup_type,si];kernel_rfl
theorem yf:typeLookup (.type "str") "__index__"=pure none:=by rw[typeLookup_type,si];kernel_rfl
theorem yg:typeLookup (.type "str") "__trunc__"=pure none:=by rw[typeLookup_type,si];kernel_rfl
theorem Kl(cs:List Nat):Array.foldl (fun acc d=>acc*10+d) 0 (#[]++(cs.map (· - 48)).toArray)=gb cs:=by
 unfold gb;simp[List.foldl_map]
theorem tR(x:Str)(u:Tok){c0:Nat}{r:List Nat}(he:x.cps.toList=c0::r)(h0:49<=c0/\c0<=57\/c0=48/\r=[])(hr:∀ c∈r,48<=c/\c<=57)(hl:r.length<600): Meets (Builtin.«int.__new__» ⟨[.type "int",.str x u],[]⟩) (Made.int (gb (c0::r):Nat)).spec :=
 Meets.of_wp fun prog w A R s hs=>by
  have lh:∀ c∈c0::r,48<=c/\c<=57:=fun c hc=>by
   rcases av.mp hc with rfl|hc
   ·rcases h0 with h|h<;>exact oo
   exact hr c hc
  have ha:x.cps.all (· < 128)=true:=by
   rw[<- Array.all_toList,he,cm];intro c hc;have:=lh c hc;exact cS oo
  have hz:(c0::r).takeWhile (· != 0)=c0::r:=by
   have all:∀(l:List Nat),(∀ c∈l,48<=c/\c<=57)->l.takeWhile (· != 0)=l:=by
    intro l
    induction l with
    |nil=>intro _;rfl
    | cons a b ih =>
     intro h;have:=h a qms;rw[kP (by simp;exact oo),ih fun c hc=>h c (k8 _ hc)]
   exact all _ lh
  have xE:(c0::r).length <= 640:=by show r.length+1<=640;exact oo
  have h6:¬6000<r.length+1:=oo
  have RQ:c0=49\/c0=50\/c0=51\/c0=52\/c0=53\/c0=54\/c0=55\/c0=56\/c0=57\/(c0=48/\r=[]):=by
   rcases h0 with h|h
   ·omega
   exact .inr (.inr (.inr (.inr (.inr (.inr (.inr (.inr (.inr h))))))))
  obtain⟨hp,g,d,tk,os⟩:=s;have f1:=F.conv_sub_int;have f2:=F.madeHere_int;have f3:=DK;have f4:=yf;have f5:=yg;have hT:(⟨hp,g,d,tk,os⟩:Shared).TypeIs (.str x u) "str":=rfl
  repeat (any_goals (first|assumption|wp_step))
  rw[b6 ha,he,hz,b6 xE]
  repeat (any_goals (first|assumption|wp_step))
  clear xE hz ha he hT;have key:=Kl (c0::r);generalize hn:gb (c0::r)=n at hs key;rcases RQ with rfl|rfl|rfl|rfl|rfl|rfl|rfl|rfl|rfl|⟨rfl,rfl⟩
  rotate_right
  ·split
   ·rename_i m h
    cases h
   ·rename_i h
    cases h
   ·rename_i i h
    have e:i=(n:Int):=by
     cases h;rw[<- hn]
     rfl
    subst e;rw[b6 oz]
    repeat (any_goals (first|assumption|wp_step))
    all_goals first|exact⟨_,Z,hs⟩|skip
   rename_i h
   cases h
  all_goals
   split
   ·rename_i m h
    change (match (Option.bind (α:=Array Nat×Bool) (β:=Array Nat) (List.foldlM (m:=Option) (s:=Array Nat×Bool) (α:=Nat) _ ((#[]:Array Nat),false) (((_:List Nat).reverse.dropWhile _).reverse)) _)with|none=>_|some ds=>_)=_ at h
    rw[m6 _ (fun c hc=>by
       rcases cU (lh c hc).1 (lh c hc).2 with rfl|rfl|rfl|rfl|rfl|rfl|rfl|rfl|rfl|rfl<;>rfl),lE _ (fun c hc=>by
       rcases cU (lh c hc).1 (lh c hc).2 with rfl|rfl|rfl|rfl|rfl|rfl|rfl|rfl|rfl|rfl<;>rfl),jD (fun ds b c h1 h2=>by
       rcases cU h1 h2 with rfl|rfl|rfl|rfl|rfl|rfl|rfl|rfl|rfl|rfl<;>rfl) _ _ _ lh]at h
    simp[h6]at h
   ·rename_i h
    change (match (Option.bind (α:=Array Nat×Bool) (β:=Array Nat) (List.foldlM (m:=Option) (s:=Array Nat×Bool) (α:=Nat) _ ((#[]:Array Nat),false) (((_:List Nat).reverse.dropWhile _).reverse)) _)with|none=>_|some ds=>_)=_ at h
    rw[m6 _ (fun c hc=>by
       rcases cU (lh c hc).1 (lh c hc).2 with rfl|rfl|rfl|rfl|rfl|rfl|rfl|rfl|rfl|rfl<;>rfl),lE _ (fun c hc=>by
       rcases cU (lh c hc).1 (lh c hc).2 with rfl|rfl|rfl|rfl|rfl|rfl|rfl|rfl|rfl|rfl<;>rfl),jD (fun ds b c h1 h2=>by
       rcases cU h1 h2 with rfl|rfl|rfl|rfl|rfl|rfl|rfl|rfl|rfl|rfl<;>rfl) _ _ _ lh]at h
    simp[h6]at h
   ·rename_i i h
    change (match (Option.bind (α:=Array Nat×Bool) (β:=Array Nat) (List.foldlM (m:=Option) (s:=Array Nat×Bool) (α:=Nat) _ ((#[]:Array Nat),false) (((_:List Nat).reverse.dropWhile _).reverse)) _)with|none=>_|some ds=>_)=_ at h
    rw[m6 _ (fun c hc=>by
       rcases cU (lh c hc).1 (lh c hc).2 with rfl|rfl|rfl|rfl|rfl|rfl|rfl|rfl|rfl|rfl<;>rfl),lE _ (fun c hc=>by
       rcases cU (lh c hc).1 (lh c hc).2 with rfl|rfl|rfl|rfl|rfl|rfl|rfl|rfl|rfl|rfl<;>rfl),jD (fun ds b c h1 h2=>by
       rcases cU h1 h2 with rfl|rfl|rfl|rfl|rfl|rfl|rfl|rfl|rfl|rfl<;>rfl) _ _ _ lh]at h
    simp[h6]at h;simp at key;rw[key]at h;subst h;rw[b6 oz]
    repeat (any_goals (first|assumption|wp_step))
    all_goals first|exact⟨_,Z,hs⟩|skip
   rename_i h
   change (match (Option.bind (α:=Array Nat×Bool) (β:=Array Nat) (List.foldlM (m:=Option) (s:=Array Nat×Bool) (α:=Nat) _ ((#[]:Array Nat),false) (((_:List Nat).reverse.dropWhile _).reverse)) _)with|none=>_|some ds=>_)=_ at h
   rw[m6 _ (fun c hc=>by
      rcases cU (lh c hc).1 (lh c hc).2 with rfl|rfl|rfl|rfl|rfl|rfl|rfl|rfl|rfl|rfl<;>rfl),lE _ (fun c hc=>by
      rcases cU (lh c hc).1 (lh c hc).2 with rfl|rfl|rfl|rfl|rfl|rfl|rfl|rfl|rfl|rfl<;>rfl),jD (fun ds b c h1 h2=>by
      rcases cU h1 h2 with rfl|rfl|rfl|rfl|rfl|rfl|rfl|rfl|rfl|rfl<;>rfl) _ _ _ lh]at h
   simp[h6]at h
theorem vz{u:Tok}{c0:Nat}{r:List Nat}(he:x.cps.toList=c0::r)(h0:49<=c0/\c0<=57\/c0=48/\r=[])(hr:∀ c∈r,48<=c/\c<=57)(hl:r.length<600)(h:Q (.int (gb (c0::r):Nat) s.toks) { s with toks:=s.toks+1 }): wpAny (model prog w) A (call (.type "int") [.str x u]) Q E s :=
 call_int_1 (tR x u he h0 hr hl) (show(Made.int (gb (c0::r):Nat)).post _ s from⟨rfl,h⟩)
end PySem
namespace L2
open PySem PySem.Spec PyProof.Rows
theorem DN:dN X (.type "int") (fun xs H Q=>∃(x:Str) (c0:Nat) (r:List Nat),xs=[.str x]/\x.cps.toList=c0::r/\(49<=c0/\c0<=57\/c0=48/\r=[])/\(∀ c∈r,48<=c/\c<=57)/\r.length<600/\Q (.int (gb (c0::r):Nat)) H):=by
 intro pins s σ H xs us Q I r h;obtain⟨x,c0,r',rfl,he,h0,hr,hl,q⟩:=h;obtain⟨u,rfl,t,rfl⟩:=vals1 r;exact vz he h0 hr hl ⟨.int _,H,I.tok _,⟨_,rfl⟩,q⟩
def MP(X:Cx)(tf:TE)(ta:TA):TE:=fun σ H Q=>tf σ H fun v H1=>∃(f:Addr)(CX:r_)(k:Nat)(fd:FuncData)(ps:List Str)(sp:Sp)(E:XK),v=.ref f/\fF X.prog X.w X.K X.mg X.base CX k f fd ps sp/\eW k X.A/\W.keepIn X.K (.ref f)=true/\Binds X.K fd ps []/\dM CX X E /\
 ta σ H1 fun vs H2=>sp vs H2 Q E
theorem m7{o i:Expr}{tf:TE}{ta:TA}(hf:PE X (.Subscript o i p) tf)(ha:PA X (e::es) ta)
  (he:starEach (e::es) X.env=(false,eval e X.env):: starEach es X.env:=by rfl) (gI:(backTo pos (starEach es X.env)).any (·.1)=false:=by rfl):
  PE X (.Call (.Subscript o i p) (e::es) [] pos) (MP X tf ta):=by
 intro pins s σ H Q I h
 have arm:eval (.Call (.Subscript o i p) (e::es) [] pos) X.env=(do
   callWith pos (<- eval (.Subscript o i p) X.env) [] (backTo pos (starEach (e::es) X.env)) (backToKw pos (keywordEach [] X.env))):=rfl
 rw[arm];refine ae (thn (hf pins s σ H _ I h) fun u s1 ⟨x,H1,I1,r1,f,CX,k,fd,ps,sp,E,ev,F,hr,hk,hb,hx,q⟩=>?_);subst ev;cases r1;refine pE (h₀:=X.base) I1.ok.mod.E5 hk (thn (ha pos pins s1 σ H1 _ I1 q) fun us s2 ⟨vs,H2,I2,r,q2⟩=>⟨I2.kIn,?_⟩) he gI;exact rJ (dvs:=[]) (ds:=[]) F hr hb .nil hx I2 r (by rw[bX];exact q2)
section
variable{M:Model}
variable{nm q _U q':Str}{N C' N':Addr}{bs bs' OY:List Value}{hdct NF:Bool}{sn _A:List Str}{sub Rg:List Value}{ab ab':Bool}{col TK:Option Bool}{dd dd':Option Addr}{k0 k1 k2 k3 k5 j0 j1 j2 j3 j5:Option Value}{HP:String}
theorem nY{g:Array GenState}{d:Drawn}{t:Nat}{os:OsState}{e:Addr}{oe:Obj}{b:Bool}{Q:Bool->Shared->Prop}(hC:h.get? C=some (excClassObj nm q C N bs bm hdct sn sub ab col dd k0 k1 k2 k3 k5 newId))(hM:h.get? C'=some (excClassObj _U q' C' N' bs' OY NF _A Rg ab' TK dd' j0 j1 j2 j3 j5 HP))(he:h.get? e=some oe)(IQ:oe.cls=.ref C)(l0:OY.contains (.type "BaseException")=true)(DZ:(Value.ref C::bm).contains (.ref C')=b)(hq:Q b ⟨h,g,d,t,os⟩):wpAny M A (excMatches (.ref e) (.ref C')) Q E ⟨h,g,d,t,os⟩:=by
 have hcB:(Value.ref C'::OY).contains (.type "BaseException")=true:=by rw[List.contains_cons,l0,Bool.or_true]
 have f:=tc_notTuple;cases b
 all_goals unfold excMatches
 all_goals repeat (first | (with_reducible refine wpAny_loadPart_at he ?_;rw[IQ])|with_reducible refine wpAny_loadPart_at hM ?_ | (with_reducible refine wpAny_isSubtype_exc hM ?_;rw[hcB]) | (with_reducible refine wpAny_isSubtype_exc hC ?_;rw[DZ])|wp_step)
 all_goals first|exact hq|exact aI hq
end
inductive Pd(X:Cx):List ExceptHandler->List (Addr×TS)->Prop
 |nil:Pd X [] []
 | cons {x:Str} {M:Addr} {b₀:Stmt} {ya:List Stmt} {np AI:Pos} {rest:List ExceptHandler} {ts:TS} {tr:List (Addr×TS)} (hm:X.mg x=some (.ref M)) (hM:ff X.K M=true) (hg:X.env.scope.names.lookup x=some .globalImplicit) (kg:(x==("__debug__":Str))=false)
   (hs:∀ e,tF (X.iS e) (b₀::ya) ts) (hr:Pd X rest tr):Pd X (.ExceptHandler (some (.Name x np)) none (b₀::ya) AI::rest) ((M,ts):: tr)
def pick(K:W.Frag)(C:Addr)(D:Ends)(σ:St)(H:Hp):List (Addr×TS)->Prop
 |[]=>False
 |(M,ts):: r=>(under K C M=true/\ts D σ H)\/(under K C M=false/\pick K C D σ H r)
def O5(K:W.Frag)(tb:JU)(hs:List (Addr×TS)):TS:=fun D σ H=>tb D (fun c _ H1=>∃ C,c=.ref C/\(lU K C).isSome=true/\pick K C D σ H1 hs) σ H
theorem EA{B h5:Heap}(I1:Inv X pins σ H1 s1)(rh:X.stack=X.env::X.outer)(Lo:s2.os=s1.os)(oT:AllBare s2.gens)(oy:Un (iq X.stack) [] H1 H2 s1.heap s2.heap)(xh:kK X.prog X.w H2 s2.heap)(nB:∀ b o,s1.heap.get? b=some o->H1 b=none->b∉iq X.stack->B.get? b=some o)(DV:∀ b o,s1.heap.get? b=some o->b∉iq X.stack->∃ o',B.get? b=some o')(wm:∀ b,H2 b≠none->∃ o,s2.heap.get? b=some o/\B.get? b=some o)(Lu:Heap.FlyingW B X.stack a (.ref C) a0 h5)(sm:s2.heap.UpToSlots h5)  (q1:lU X.K C=some bm): ∀{hs:List ExceptHandler}{l:List (Addr×TS)},Pd X hs l->pick X.K C D σ H2 l->wpAny (model X.prog X.w) X.A (handleBy (.ref a) X.env hs) (SP X pins D) X.xe { s2 with heap:=h5 }:=by
 intro hs l P;have I5:Inv X pins σ H2 { s2 with heap:=h5 }:=I1.landed rh Lo oT oy xh nB DV wm Lu sm;obtain⟨ob,Vr,MV⟩:=Lu.there;have KI:X.K.In h5:=I5.kIn
 induction P with
 |nil=>intro k;exact k.elim
 | @cons x M b₀ ya np AI rest ts tr hm hM hg kg wo hr ih =>
  intro k;refine wpAny_handleBy_cons (codeAny_handlers_test (je (X:=X.iS a) (I5.iS a) hg hm ?_ kg)) (by intro q;cases q)
  obtain⟨OY,q3,q4⟩:∃ bm,lU X.K M=some bm/\bm.contains (.type "BaseException")=true:=by
   unfold ff at hM;cases e:lU X.K M with
   |none=>rw[e]at hM;cases hM
   |some bm=>rw[e]at hM;exact⟨bm,Z,hM⟩
  obtain⟨_,_,_,_,_,_,_,_,_,_,_,_,_,_,_,_,oC⟩:=wI KI q1;obtain⟨_,_,_,_,_,_,_,_,_,_,_,_,_,_,_,_,oM⟩:=wI KI q3;have eu:under X.K C M=(Value.ref C::bm).contains (.ref M):=by unfold under;rw[q1];rfl
  rcases k with⟨hu,k⟩|⟨hu,k⟩
  ·rw[eu]at hu
   refine nY oC oM Vr MV q4 hu (codeAny_handlers_suite ?_);refine lands_againW Lu fun h6 fl6 _B=>?_
   have I6:Inv X pins σ H2 { s2 with heap:=h6 }:=I1.landed rh Lo oT oy xh nB DV wm fl6 (sm.trans _B);refine df (wo a pins _ _ _ D (I6.iS a) k) (fun f s9 q=>?_) fun _ _ z=>False.elim z
   cases f with
   |next=>obtain⟨σ',H',I9,q⟩:=q;exact⟨_,_,I9.uncaught I1.ok,q⟩
   |brk=>obtain⟨σ',H',I9,q⟩:=q;exact⟨_,_,I9.uncaught I1.ok,q⟩
   |cont=>obtain⟨σ',H',I9,q⟩:=q;exact⟨_,_,I9.uncaught I1.ok,q⟩
   |ret u=>obtain⟨v,σ',H',I9,r,q⟩:=q;exact⟨v,_,_,I9.uncaught I1.ok,r,q⟩
  rw[eu]at hu;exact nY oC oM Vr MV q4 hu (ih k)
theorem yR{tb:JU}{hs:List ExceptHandler}{l:List (Addr×TS)}(hb:Mv X body tb)(P:Pd X hs l)(g7:hs≠[]:=by exact eA _ _)
  (rh:X.stack=X.env::X.outer:=by rfl) (Sw:X.env.frame=some X.env.locals:=by rfl):
  PS X (.Try body hs [] [] pos) (O5 X.K tb l):=by
 intro pins s σ H D I h
 obtain⟨h0,Vk,rfl⟩:∃ h0 Vk,hs=h0::Vk:=by
  cases hs with
  |nil=>exact absurd rfl g7
  |cons a b=>exact⟨a,b,Z⟩
 refine wpAny_Try_except (df (hb pins s σ H D _ I h) (fun f s1 q=>?_) fun e s2 q=>?_)
 ·cases f with
  |next=>exact iO q
  |ret v=>exact q
  |brk=>exact q
  |cont=>exact q
 obtain⟨H1,s1,I1,a,C,H2,ea,F,C',ec,hu,k⟩:=q;subst ea;cases ec;obtain⟨Lo,oT,oy,xh,FE,B,a0,Fs,nB,DV,wm⟩:=F;have Sv:X.A.frames=some (X.env::X.outer):=by rw[<- rh];exact I1.ok.frames
 rw[rh]at Fs;refine wpAny_looks_onW Sv Sw Fs fun h4 Nn _D=>?_
 refine wpAny_landsW Nn fun h5 Lu _C=>?_
 rw[<- rh]at Lu;obtain⟨bm,q1⟩:=md.mp hu;exact EA I1 rh Lo oT oy xh nB DV wm Lu (_D.trans _C) q1 P k
end L2
namespace PySem
open PyProof.Rows Builtin.Str
theorem kJ(c:Nat):(fun d=>(⟨#[c]⟩:Str).cps.contains d)=fun d=>d==c:=by
 funext d
 show(#[c]:Array Nat).contains d=_
 by_cases e:d=c<;>simp[e]
theorem jj(p:Nat->Bool):∀ l:List Nat,l.drop (l.takeWhile p).length=l.dropWhile p
 |[]=>rfl
 | a::r=>by
  by_cases h:p a=true
  ·rw[kP h,List.dropWhile_cons_of_pos h]
   exact jj p r
  rw[EK h,kR h]
  rfl
theorem DP(p:Nat->Bool):∀ l:List Nat,(l.takeWhile p).length <= l.length
 |[]=>qnr _
 | a::r=>by
  by_cases h:p a=true
  ·rw[kP h]
   have:=DP p r;show(r.takeWhile p).length+1<=r.length+1;exact oo
  rw[EK h];exact mf _
theorem GX(x:Str)(c:Nat):(Txt.lstripChars x ⟨#[c]⟩).cps.toList=x.cps.toList.dropWhile (· == c):=by
 unfold Txt.lstripChars;rw[stripBy_eq,ki];show((x.cps.toList.drop (x.cps.toList.takeWhile (fun d=>(⟨#[c]⟩:Str).cps.contains d)).length).take (x.length-(x.cps.toList.takeWhile (fun d=>(⟨#[c]⟩:Str).cps.contains d)).length))=_;rw[kJ,jj];refine fe ?_;rw[<- jj,dA];have:x.length=x.cps.toList.length:=ag.symm;exact oo
theorem tU(x:Str)(c:Nat):(Txt.stripChars x ⟨#[c]⟩).cps.toList=((x.cps.toList.dropWhile (· == c)).reverse.dropWhile (· == c)).reverse:=by
 unfold Txt.stripChars;rw[stripBy_eq,ki];have hx:x.length=x.cps.toList.length:=ag.symm
 have e:stripLo (fun d=>(⟨#[c]⟩:Str).cps.contains d) true x=(x.cps.toList.takeWhile (fun d=>d==c)).length:=by
  rw[kJ]
  rfl
 show(x.cps.toList.drop (stripLo (fun d=>(⟨#[c]⟩:Str).cps.contains d) true x)).take ((x.length-((x.cps.toList.drop (stripLo (fun d=>(⟨#[c]⟩:Str).cps.contains d) true x)).reverse.takeWhile (fun d=>(⟨#[c]⟩:Str).cps.contains d)).length)-stripLo (fun d=>(⟨#[c]⟩:Str).cps.contains d) true x)=_;rw[e,jj,kJ,<- jj (fun d=>d==c) (x.cps.toList.dropWhile (fun d=>d==c)).reverse,List.drop_reverse,dr]
 congr 1
 have h1:(x.cps.toList.dropWhile (fun d=>d==c)).length+(x.cps.toList.takeWhile (fun d=>d==c)).length=x.cps.toList.length:=by
  rw[<- jj,dA];have:=DP (fun d=>d==c) x.cps.toList;exact oo
 exact oo
def eF(c:Nat):List Nat->List (List Nat)
 |[]=>[[]]
 | d::r=>if d=c then []:: eF c r else match eF c r with
  |[]=>[[d]]
  |p::ps=>(d::p):: ps
theorem jk(c:Nat):∀(u v:List Nat),c∉u->eF c (u++v)=match eF c v with
  |[]=>[u]
  |p::ps=>(u++p):: ps
 | [], v,_=>by
  show eF c v=_;cases h:eF c v with
  | nil =>
   cases v with
   |nil=>cases h
   | cons d r =>
    unfold eF at h
    split at h
    ·cases h
    split at h<;>cases h
  |cons p ps=>rfl
 | d::r,v,h=>by
  have h1:¬d=c:=fun e=>h (e ▸ qms)
  show(if d=c then _ else match eF c (r++v)with | []=>[[d]] | p::ps=>(d::p):: ps)=_;rw[bq h1,jk c r v fun z=>h (k8 _ z)];cases eF c v<;>rfl
theorem lV(c:Nat):∀ ps:List Str,ps≠[]->(∀ p∈ps,c∉p.cps.toList)->eF c (Str.join ⟨#[c]⟩ ps).cps.toList=ps.map (·.cps.toList)
 |[],h,_=>absurd rfl h
 | [p],_,h=>by
  show eF c p.cps.toList=[p.cps.toList]
  have:=jk c p.cps.toList [] (h p qms);rw[bX]at this;rw[this];show [p.cps.toList++[]]=_;rw[bX]
 | p::q::r,_,h=>by
  have ih:=lV c (q::r) (eA _ _) fun z hz=>h z (k8 _ hz)
  show eF c (p++⟨#[c]⟩++Str.join ⟨#[c]⟩ (q::r)).cps.toList=_
  have e:(p++⟨#[c]⟩++Str.join ⟨#[c]⟩ (q::r)).cps.toList=p.cps.toList++(c::(Str.join ⟨#[c]⟩ (q::r)).cps.toList):=by
   show(p.cps ++ #[c]++(Str.join ⟨#[c]⟩ (q::r)).cps).toList=_;simp
  rw[e,jk c _ _ (h p qms)];have e2:eF c (c::(Str.join ⟨#[c]⟩ (q::r)).cps.toList)=[]:: eF c (Str.join ⟨#[c]⟩ (q::r)).cps.toList:=b6 rfl;rw[e2,ih];show(p.cps.toList++[]):: _=_;rw[bX]
  rfl
theorem Km(x:Str)(c:Nat):(Txt.split x ⟨#[c]⟩).map (·.cps.toList)=eF c x.cps.toList:=by
 have h1:=StrLaws.join_split x ⟨#[c]⟩;have h2:=StrLaws.split_free x c;have h3:=split_pos x ⟨#[c]⟩;have h:=lV c (Txt.split x ⟨#[c]⟩) (fun e=>by rw[e]at h3;exact absurd h3 odz) h2;rw[h1]at h;exact h.symm
end PySem
namespace L2
open PySem PyProof.Rows
theorem DQ(h:X.K=K:=by rfl):sC X "list.count" (z_ K):=h ▸ GR
open PySem PySem.Spec PyProof.Rows
def Ko:TE:=fun _ _ _=>False
theorem GZ:PE X e Ko:=fun _ _ _ _ _ _ h=>h.elim
inductive He(K:W.Frag)(x:V)(vs:List V)(H:Hp)(Q:VK):Prop
 |mk(z:Str)(p:Addr)(ys:List Str)(_:x=.str z)(_:vs=[.ref p])(_:SqT K H p (ys.map V.str))(_:(ys.map (·.length)).sum+ys.length*z.length<=16777216)(_:Q (.str (Txt.join z ys)) H)
theorem G3:sC X "str.join" (He X.K):=by
 intro pins s σ H x xs v us Q I rx r h;obtain⟨z,p,ys,rfl,rfl,hp,hs,q⟩:=h;obtain⟨t,rfl⟩:=rx;obtain⟨u,rfl,ru⟩:=vals1 r;cases ru;obtain⟨its,rv,pl,hz⟩:=I.tuple hp;exact join_tuple pl (by simpa using lB rv) hs fun t' k=>⟨.str _,H,I.tok k,⟨t',rfl⟩,q⟩
end L2
namespace PySem.ZL
open PySem
abbrev Qn(h:Heap)(z TI TO a:Addr)(f:Bool):Prop :=
 h.get? z=some { cls:=.type "zip",dict:=none,data:=.fields #[rawInt a,.bool f,.bool false,.ref TI,.ref TO],slots:=#[] }
structure St(h:Heap)(z TI TO i1 i2 l1 l2 S:Addr)(i:Nat)(xs ys:Array Value):Prop where
 f:(i=0/\IsZip h z TI TO .none)\/∃ a f oa,Qn h z TI TO a f/\h.get? a=some oa/\a≠z/\a≠TO/\a≠i1/\a≠i2/\a≠S
 ti:IsPair h TI (.ref i1) (.ref i2)
 to:∃ a b,IsPair h TO a b
 a1:h.IsListIter i1 l1 i
 a2:h.IsListIter i2 l2 i
 b1:h.IsList l1 xs
 b2:h.IsList l2 ys
end PySem.ZL
namespace Mc
open PySem PySem.Spec PyProof.Rows
inductive Op where
 |and|or|thn|same
 deriving DecidableEq
def Op.str:Op->Str
 | .and => "and"
 | .or => "or"
 | .thn => "then"
 | .same => "same"
inductive Tr where
 |nm (x:Str)|yes|no|not (t:Tr)|bin (o:Op) (a b:Tr)
def Tr.tag:Tr->Str
 | .nm _ => "name"
 | .yes => "yes"
 | .no => "no"
 | .not _ => "not"
 | .bin o _ _=>o.str
def Tr.kids:Tr->List Tr
 | .not t=>[t]
 | .bin _ a b=>[a,b]
 |_=>[]
def Tr.depth:Tr->Nat
 | .not t=>t.depth+1
 | .bin _ a b=>max a.depth b.depth+1
 |_=>1
def Tr.size:Tr->Nat
 | .not t=>t.size+1
 | .bin _ a b=>a.size+b.size+1
 |_=>1
def Tr.names:Tr->List Str
 | .nm x=>[x]
 | .not t=>t.names
 | .bin _ a b=>a.names++b.names
 |_=>[]
def Tr.isNm:Tr->Bool
 | .nm _=>true
 |_=>false
theorem Tr.i9(t:Tr):1<=t.depth:=by cases t<;>simp[Tr.depth]
theorem kW(t:Tr):(t.tag=("name":Str))↔t.isNm=true:=by
 cases t with
 |nm x=>simp[Tr.tag,Tr.isNm]
 |yes=>simp only[Tr.tag,Tr.isNm];decide +kernel
 |no=>simp only[Tr.tag,Tr.isNm];decide +kernel
 |not t=>simp only[Tr.tag,Tr.isNm];decide +kernel
 |bin o a b=>cases o <;> (simp only[Tr.tag,Tr.isNm,Op.str];decide +kernel)
def jK(ts:List Tr):Nat:=ts.foldr (fun t d=>max t.depth d) 0
def dz(ts:List Tr):Nat:=(ts.map Tr.size).sum
theorem G4(a b:List Tr):jK (a++b)=max (jK a) (jK b):=by
 induction a with
 |nil=>simp[jK]
 |cons t r ih=>simp only[gS,jK,List.foldr_cons]at *;rw[ih];exact oo
theorem uK(t:Tr):t.depth=jK t.kids+1:=by
 cases t<;>simp[Tr.kids,jK,Tr.depth]
theorem rQ:∀ ts:List Tr,ts≠[]->jK ts=jK (ts.flatMap Tr.kids)+1
 | [t],_=>by
  have:=uK t;simp only[fw,xv,bX];show max t.depth 0=_;exact oo
 | t::u::r,_=>by
  have h1:=rQ (u::r) oz;have h2:=uK t;rw[fw,G4];show max t.depth (jK (u::r))=_;exact oo
theorem DR(a b:List Tr):dz (a++b)=dz a+dz b:=by simp[dz]
theorem Bo(t:Tr):t.size=dz t.kids+1:=by
 cases t<;>simp[Tr.kids,dz,Tr.size]
theorem jx(ts:List Tr):dz ts=dz (ts.flatMap Tr.kids)+ts.length:=by
 induction ts with
 |nil=>rfl
 | cons t r ih =>
  rw[fw,DR];show t.size+dz r=_;have:=Bo t;simp only[bp];exact oo
theorem rR(ts:List Tr):ts.length<=dz ts:=by rw[jx];exact oo
def cX(ts:List Tr):List Str:=ts.flatMap Tr.names
theorem Bp(t:Tr)(x:Str):x∈t.names↔t=.nm x\/x∈cX t.kids:=by
 cases t with
 | nm y =>
  simp only[Tr.names,Tr.kids,cX,xv,ar,List.not_mem_nil,or_false,Tr.nm.injEq];exact eq_comm
 |yes=>simp[Tr.names,Tr.kids,cX]
 |no=>simp[Tr.names,Tr.kids,cX]
 |not t=>simp[Tr.names,Tr.kids,cX]
 |bin o a b=>simp[Tr.names,Tr.kids,cX]
theorem oU(ts:List Tr)(x:Str):x∈cX ts↔Tr.nm x∈ts\/x∈cX (ts.flatMap Tr.kids):=by
 induction ts with
 |nil=>simp[cX]
 | cons t r ih =>
  have e1:cX (t::r)=t.names++cX r:=rfl;have e2:cX ((t::r).flatMap Tr.kids)=cX t.kids++cX (r.flatMap Tr.kids):=by simp[cX]
  rw[e1,e2,aw,aw,Bp,ih,av]
  constructor
  ·rintro((h|h) | (h|h))
   ·exact .inl (.inl h.symm)
   ·exact .inr (.inl h)
   ·exact .inl (.inr h)
   exact .inr (.inr h)
  rintro((h|h) | (h|h))
  ·exact .inl (.inl h.symm)
  ·exact .inr (.inl h)
  ·exact .inl (.inr h)
  exact .inr (.inr h)
theorem kY{α:Type}[DecidableEq α]:∀{a b:List α},a.Nodup->(∀ x∈a,x∈b)->a.length<=b.length
 |[],_,_,_=>mf _
 | x::r,b,ha,h=>by
  have hx:=h x qms;have h1:=kY (b:=b.erase x) (eR.mp ha).2 fun y hy=>(List.mem_erase_of_ne (fun e=>by subst e;exact(eR.mp ha).1 hy)).mpr (h y (k8 _ hy))
  have h2:=List.length_erase_of_mem hx;have h3:0<b.length:=fT hx;simp only[bp];exact oo
end Mc
variable{t tr t1 t2:Mc.Tr}{ts:List Mc.Tr}
namespace Mc
open PySem
abbrev Str.l(x:Str):List Nat:=x.cps.toList
theorem Kp{a b:Str}(h:a.cps.toList=b.cps.toList):a=b:=by
 have e2:a.cps=b.cps:=xy.mp h;cases a;cases b;exact bP Str.mk e2
theorem vI(a b:Str):(a++b).cps.toList=a.cps.toList++b.cps.toList:=by
 show(a.cps++b.cps).toList=_;simp
theorem lF(a:Str):a.length=a.cps.toList.length:=by
 show a.cps.size=_;simp
theorem MT:∀ ys:List Str,(Txt.join (⟨#[]⟩:Str) ys).cps.toList=ys.flatMap (·.cps.toList):=by
 have gen:∀ ys:List Str,(Str.join (⟨#[]⟩:Str) ys).cps.toList=ys.flatMap (·.cps.toList):=by
  intro ys
  induction ys with
  |nil=>rfl
  | cons x r ih =>
   cases r with
   | nil =>
    show x.cps.toList=_;simp
   | cons y q =>
    show(x++(⟨#[]⟩:Str)++Str.join ⟨#[]⟩ (y::q)).cps.toList=_;rw[vI,vI,ih,fw];simp
 intro ys;show(Builtin.Str.glued _ ys).cps.toList=_;rw[gL];exact gen ys
abbrev lT:Str := "abcdefghijklmnopqrstuvwxyz"
theorem Bq(i:Nat)(h:i<26):lT.cps.toList[i]?=some (97+i):=by
 have:∀ i:_root_.Fin 26,lT.cps.toList[i.val]?=some (97+i.val):=by decide +kernel
 exact this ⟨i,h⟩
theorem yh:lT.length=26:=by decide +kernel
structure mx(y:Str):Prop where
 pos:1<=y.cps.toList.length
 le:y.cps.toList.length<=8
 ok:∀ c∈y.cps.toList,97<=c/\c<=122
end Mc
namespace Mc
open PySem PySem.Spec PyProof.Rows L2
inductive c8(H:Hp):V->Tr->Prop where
 |nm {a:Addr} {x:Str}:H a=some (.tup [.str "name",.str x])->c8 H (.ref a) (.nm x)
 |yes {a:Addr}:H a=some (.tup [.str "yes"])->c8 H (.ref a) .yes
 |no {a:Addr}:H a=some (.tup [.str "no"])->c8 H (.ref a) .no
 |not {a:Addr} {v:V} {t:Tr}:H a=some (.tup [.str "not",v])->c8 H v t->c8 H (.ref a) (.not t)
 |bin {a:Addr} {o:Op} {v u:V} {t t':Tr}:H a=some (.tup [.str o.str,v,u])->c8 H v t->c8 H u t'->c8 H (.ref a) (.bin o t t')
def gs(H H':Hp):Prop:=∀ b xs,H b=some (.tup xs)->H' b=some (.tup xs)
theorem gs.trans(a:gs H H1)(b:gs H1 H2):gs H H2:=fun c o h=>b c o (a c o h)
theorem _root_.L2.aT.b9(s:aT H H'):gs H H':=fun b xs h=>s b _ h
theorem c8.mono(k:gs H H')(h:c8 H v t):c8 H' v t:=by
 induction h with
 |nm e=>exact .nm (k _ _ e)
 |yes e=>exact .yes (k _ _ e)
 |no e=>exact .no (k _ _ e)
 |not e _ ih=>exact .not (k _ _ e) ih
 |bin e _ _ RI RH=>exact .bin (k _ _ e) RI RH
theorem c8.open(h:c8 H v t):∃ a rest,v=.ref a/\H a=some (.tup (.str t.tag::rest))/\(t.isNm=true->∃ x,t=.nm x/\rest=[.str x])/\(t.isNm=false->Paired (c8 H) rest t.kids):=by
 cases h with
 |nm e=>exact⟨_,_,rfl,e,fun _=>⟨_,rfl,rfl⟩,fun z=>by cases z⟩
 |yes e=>exact⟨_,_,rfl,e,(fun z=>by cases z),fun _=>.nil⟩
 |no e=>exact⟨_,_,rfl,e,(fun z=>by cases z),fun _=>.nil⟩
 |not e h1=>exact⟨_,_,rfl,e,(fun z=>by cases z),fun _=>.cons h1 .nil⟩
 |bin e h1 h2=>exact⟨_,_,rfl,e,(fun z=>by cases z),fun _=>.cons h1 (.cons h2 .nil)⟩
theorem cO(k:gs H H'){us:List V}(h:Paired (c8 H) us ts):Paired (c8 H') us ts:=Paired.gV h fun _ _ q=>q.mono k
theorem dg{α β:Type}{F:α->β->Prop}:∀{a c:List α}{b d:List β},Paired F a b->Paired F c d->Paired F (a++c) (b++d)
 |_,_,_,_,.nil,s=>s
 |_,_,_,_,.cons r t,s=>.cons r (dg t s)
theorem bN{α β:Type}{F:α->β->Prop}:∀{a:List α}{b:List β},Paired F a b->∀(i:Nat) x,a[i]?=some x->∃ y,b[i]?=some y/\F x y
 |_,_,.nil,i,x,h=>by simp at h
 | _,_,.cons r t,0,x,h=>by
  rw[List.getElem?_cons_zero]at h;cases h;exact⟨_,Z,r⟩
 | _,_,.cons r t,i+1,x,h=>by
  rw[List.getElem?_cons_succ]at h;exact bN t i x h
theorem G5(x:V)(rest:List V):ir (x::rest) (some 1) none=rest:=by
 unfold ir HT.fb;simp
theorem wQ(x:V)(rest:List V):¬(HT.fb (x::rest).length 0 (some 1)=0/\HT.fb (x::rest).length (x::rest).length none=(x::rest).length):=by
 unfold HT.fb;simp
theorem aB{l:Addr}(h:H l=none):aT H (upd H l o):=fun b u e=>by
 rw[aG (aK e h)];exact e
theorem wR(h:H b=some (.lst xs)):gs H (upd H b o):=fun c ys e=>by
 rw[aG (fun z=>by subst z;rw[h]at e;cases e)];exact e
theorem DW(s:aT H H'){l:Addr}(h:H' l=none):H l=none:=s.free h
theorem DX(h:kvs.map (·.1)=ys.map Sum.inr)(x:Str)(v:V): (putK kvs (Sum.inr x:Key) v).map (·.1)=(if x∈ys then ys else ys++[x]).map Sum.inr:=by
 have ox:((kvs.any fun kv=>decide (kv.1=(Sum.inr x:Key)))=true)↔x∈ys:=by
  rw[m4]
  constructor
  ·rintro⟨p,hp,e⟩
   have e:=en e;have:(Sum.inr x:Key)∈kvs.map (·.1):=ck.mpr ⟨p,hp,e⟩;rw[h]at this;obtain⟨y,hy,e2⟩:=ck.mp this;cases e2;exact hy
  intro hx;have:(Sum.inr x:Key)∈kvs.map (·.1):=by rw[h];exact ck.mpr ⟨x,hx,rfl⟩
  obtain⟨p,hp,e⟩:=ck.mp this;exact⟨p,hp,cS e⟩
 unfold putK
 by_cases e:x∈ys
 ·rw[b6 (ox.mpr e),b6 e,eD,<- h]
  apply pV;intro p _;show(if p.1=(Sum.inr x:Key)then(p.1,v)else p).1=p.1
  split<;>rfl
 rw[bq (fun z=>e (ox.mp z)),bq e,ax,h,ax]
 rfl
theorem lk(h:n<=1000):n<=sizeLine:=kA (dR h)
theorem lks(h:n<=1000:=by first|exact Nat.le_of_ble_eq_true rfl|simp):n<=sizeLine:=lk h
theorem Br(h:ys.Nodup)(hx:x∉ys):(ys++[x]).Nodup:=yJ h hx
end Mc
namespace Mc
open PySem
theorem qO(a:Nat):(Builtin.bitNot (Builtin.bitNot (a:Int)))=a:=by unfold Builtin.bitNot;exact oo
theorem band(a b:Nat):Builtin.bitAnd (a:Int) (b:Int)=((a&&&b:Nat):Int):=by
 unfold Builtin.bitAnd;rw[cS (ee a),cS (ee b)]
 rfl
theorem bor(a b:Nat):Builtin.bitOr (a:Int) (b:Int)=((a|||b:Nat):Int):=by
 unfold Builtin.bitOr Builtin.bitAnd;have h1:¬(0:Int)<=Builtin.bitNot (a:Int):=by unfold Builtin.bitNot;exact oo
 have h2:¬(0:Int)<=Builtin.bitNot (b:Int):=by unfold Builtin.bitNot;exact oo
 rw[gp h1,gp h2];show Builtin.bitNot (Builtin.bitNot (((Builtin.bitNot (Builtin.bitNot (a:Int))).toNat|||(Builtin.bitNot (Builtin.bitNot (b:Int))).toNat:Nat):Int))=_;rw[qO,qO,qO]
 rfl
theorem yj:∀(a b:Nat),(a^^^b)+(a&&&b)=a|||b:=by
 intro a
 induction a using Nat.strongRecOn with
 | ind a ih =>
  intro b
  by_cases h:a=0
  ·subst h
   simp
  have q:=ih (a/2) oo (b/2);have e1:(a^^^b)/2=a/2^^^b/2:=Nat.xor_div_two;have e2:(a&&&b)/2=a/2&&&b/2:=Nat.and_div_two;have e3:(a|||b)/2=a/2|||b/2:=Nat.or_div_two
  have m:∀ x:Nat,x%2=if x.testBit 0 then 1 else 0:=fun x=>by
   rw[Nat.testBit_zero]
   by_cases z:x%2=1
   ·simp[z]
   simp[z];exact oo
  have f1:=m (a^^^b);have f2:=m (a&&&b);have f3:=m (a|||b);rw[ft]at f1;rw[h_]at f2;rw[fN]at f3;have d1:=nL (a^^^b) 2;have d2:=nL (a&&&b) 2;have d3:=nL (a|||b) 2;rw[e1]at d1;rw[e2]at d2;rw[e3]at d3
  have key:∀(u v:Bool)(x y z:Nat),x=(if (u ^^ v)=true then 1 else 0)->y=(if (u&&v)=true then 1 else 0)->z=(if (u||v)=true then 1 else 0)->x+y=z:=by
   intro u v x y z h1 h2 h3;subst h1 h2 h3;cases u<;>cases v<;>rfl
  have:=key _ _ _ _ _ f1 f2 f3;exact oo
theorem bxor(a b:Nat):Builtin.bitXor (a:Int) (b:Int)=((a^^^b:Nat):Int):=by
 unfold Builtin.bitXor;rw[bor,band];have:=yj a b;exact oo
def fL(p:Nat->Bool):Nat->Nat
 | 0=>0
 |m+1=>fL p m+if p m=true then 2^m else 0
theorem pX(p:Nat->Bool):∀ m,fL p m<2^m
 | 0=>Nat.one_pos
 | m+1=>by
  have:=pX p m;have e:2^(m+1)=2^m+2^m:=by rw[fS];exact oo
  show fL p m+(if p m=true then 2^m else 0)<_
  split<;>exact oo
theorem dG(p:Nat->Bool):∀ m i,(fL p m).testBit i=(decide (i<m)&&p i)
 | 0,i=>by simp[fL]
 | m + 1,i=>by
  have fE:=pX p m;have ih:=dG p m
  by_cases h1:i<m
  ·have e:(fL p (m+1)).testBit i=(fL p m).testBit i:=by
    show(fL p m+if p m=true then 2^m else 0).testBit i=_
    split
    ·rw[Nat.add_comm];exact EI h1 _
    rfl
   rw[e,ih i,cS h1,cS (show i<m+1 by omega)]
  by_cases h2:i=m
  ·subst h2
   rw[cS (show i<i+1 by omega)];show(fL p i+if p i=true then 2^i else 0).testBit i=_;have z:(fL p i).testBit i=false:=iF fE;cases hp:p i with
   |true=>rw[b6 rfl,Nat.add_comm,EJ,z];rfl
   |false=>rw[bq odz];exact z
  rw[gp (show ¬i<m+1 by omega)];have:=pX p (m+1);have e:2^(m+1)<=2^i:=cq odz oo;exact iF oo
theorem G6(m:Nat):fL (fun _=>true) m=2^m-1:=by
 refine cw fun i=>?_
 rw[dG,ky,qA]
theorem DY(m:Nat):fL (fun _=>false) m=0:=by
 refine cw fun i=>?_
 rw[dG,fh,oP]
def bw(g:Str->Bool):Tr->Bool
 | .nm x=>g x
 | .yes=>true
 | .no=>false
 | .not t=>!bw g t
 | .bin .and a b=>bw g a&&bw g b
 | .bin .or a b=>bw g a||bw g b
 | .bin .thn a b=>!bw g a||bw g b
 | .bin .same a b=>bw g a==bw g b
def pY:Op->Nat×Nat->Nat×Nat->Nat×Nat
 | .and,l,r=>(l.1&&&r.1,l.2|||r.2)
 | .or,l,r=>(l.1|||r.1,l.2&&&r.2)
 | .thn,l,r=>(l.2|||r.1,l.1&&&r.2)
 | .same,l,r=>((l.1&&&r.1)|||(l.2&&&r.2),(l.1&&&r.2)|||(l.2&&&r.1))
def cY(f:Str->Nat×Nat)(e:Nat):Tr->Nat×Nat
 | .nm x=>f x
 | .yes=>(e,0)
 | .no=>(0,e)
 | .not t=>((cY f e t).2,(cY f e t).1)
 | .bin o a b=>pY o (cY f e a) (cY f e b)
theorem jy{f:Str->Nat×Nat}{e i:Nat}{g:Str->Bool}(he:e.testBit i=true):∀{t:Tr},(∀ x∈t.names,(f x).1.testBit i=g x/\(f x).2.testBit i = !g x) -> (cY f e t).1.testBit i=bw g t/\(cY f e t).2.testBit i = !bw g t
 | .nm x,h=>h x qms
 | .yes,_=>⟨he,fh i⟩
 | .no,_=>⟨fh i,he⟩
 | .not t,h=>by
  obtain⟨h1,h2⟩:=jy he (t:=t) h;exact⟨h2,by show(cY f e t).1.testBit i = !!bw g t;rw[h1,Bool.not_not]⟩
 | .bin o a b,h=>by
  obtain⟨a1,a2⟩:=jy he (t:=a) fun x hx=>h x (sN _ hx)
  obtain⟨b1,b2⟩:=jy he (t:=b) fun x hx=>h x (m_ _ hx)
  cases o<;>simp only[cY,pY,bw,h_,fN,a1,a2,b1,b2]<;>cases bw g a<;>cases bw g b<;>first|exact⟨Z,Z⟩|exact⟨trivial,trivial⟩|decide
theorem lG{f:Str->Nat×Nat}{e i:Nat}(he:e.testBit i=false):∀{t:Tr},(∀ x∈t.names,(f x).1.testBit i=false/\(f x).2.testBit i=false) -> (cY f e t).1.testBit i=false/\(cY f e t).2.testBit i=false
 | .nm x,h=>h x qms
 | .yes,_=>⟨he,fh i⟩
 | .no,_=>⟨fh i,he⟩
 | .not t,h=>by
  obtain⟨h1,h2⟩:=lG he (t:=t) h;exact⟨h2,h1⟩
 | .bin o a b,h=>by
  obtain⟨a1,a2⟩:=lG he (t:=a) fun x hx=>h x (sN _ hx)
  obtain⟨b1,b2⟩:=lG he (t:=b) fun x hx=>h x (m_ _ hx)
  cases o<;>simp only[cY,pY,h_,fN,a1,a2,b1,b2]<;>first|exact⟨Z,Z⟩|exact⟨trivial,trivial⟩|decide
theorem iT{f h:Str->Nat×Nat}{e:Nat}:∀{t:Tr},(∀ x∈t.names,f x=h x)->cY f e t=cY h e t
 | .nm x,q=>q x qms
 | .yes,_=>rfl
 | .no,_=>rfl
 | .not t,q=>by
  have:=iT (e:=e) (t:=t) q;show((cY f e t).2,(cY f e t).1)=_;rw[this];rfl
 | .bin o a b,q=>by
  have e1:=iT (e:=e) (t:=a) fun x hx=>q x (sN _ hx)
  have e2:=iT (e:=e) (t:=b) fun x hx=>q x (m_ _ hx)
  show pY o _ _=pY o _ _;rw[e1,e2]
def inW(ns:List Str)(i:Nat)(x:Str):Bool:=i.testBit (ns.idxOf x)
def dH(n k:Nat):Nat:=fL (fun i=>i.testBit k) (2^n)
def cu(n:Nat):Nat:=2^(2^n)-1
def aP(ns:List Str)(t:Tr):Nat:=fL (fun i=>bw (inW ns i) t) (2^ns.length)
def aC(ns:List Str)(t:Tr):Nat:=fL (fun i=>!bw (inW ns i) t) (2^ns.length)
theorem fV(n i:Nat):(cu n).testBit i=decide (i<2^n):=by unfold cu;rw[ky]
def L'(ns:List Str)(x:Str):Nat×Nat:=(dH ns.length (ns.idxOf x),cu ns.length^^^dH ns.length (ns.idxOf x))
theorem yl:(cY (L' ns) (cu ns.length) t).1=aP ns t:=by
 refine cw fun i=>?_
 unfold aP;rw[dG]
 by_cases h:i<2^ns.length
 ·rw[cS h,hW]
  refine(jy (g:=inW ns i) (by rw[fV,cS h]) fun x _=>?_).1;unfold L' dH;rw[ft,dG,fV,cS h,hW,Bool.true_xor];exact⟨Z,Z⟩
 rw[gp h,ES];refine(lG (by rw[fV,gp h]) fun x _=>?_).1;unfold L' dH;rw[ft,dG,fV,gp h];exact⟨Z,Z⟩
theorem qx:cu ns.length^^^aP ns t=aC ns t:=by
 refine cw fun i=>?_
 unfold aP aC;rw[ft,dG,dG,fV];cases decide (i<2^ns.length)<;>cases bw (inW ns i) t<;>rfl
theorem Kq(a k:Nat):((a/2^k)%2:Nat)=if a.testBit k=true then 1 else 0:=by
 rw[Nat.testBit_eq_decide_div_mod_eq]
 by_cases h:a/2^k%2=1
 ·rw[cS h,b6 rfl,h]
 rw[gp h,bq odz];exact oo
theorem pZ(n k i:Nat):(dH n k).testBit i=(decide (i<2^n)&&i.testBit k):=dG _ _ _
theorem Ea(k:Nat):(2^(2^k)-1)*2^(2^k)=dH (k+1) k:=by
 refine cw fun i=>?_
 have e2:2^(k+1)=2^k+2^k:=by rw[fS];exact oo
 rw[pZ,kz,Nat.testBit_two_pow_mul,ky]
 by_cases h1:i<2^k
 ·have z:i.testBit k=false:=iF h1
  rw[z,oP,gp (show ¬i ≥ 2^k by omega),ES]
 by_cases h2:i<2^(k+1)
 ·have z:i.testBit k=true:=by
   have e:i=2^k+(i-2^k):=oo
   rw[e,EJ,iF (show i-2^k<2^k by omega)]
   rfl
  rw[z,cS h2,cS (show i ≥ 2^k by omega),cS (show i-2^k<2^k by omega)]
 rw[gp h2,gp (show ¬i-2^k<2^k by omega)];simp
theorem G7{k:Nat}(h:k<j):dH j k|||(dH j k*2^(2^j))=dH (j+1) k:=by
 refine cw fun i=>?_
 have e2:2^(j+1)=2^j+2^j:=by rw[fS];exact oo
 rw[fN,pZ,pZ,kz,Nat.testBit_two_pow_mul,pZ]
 by_cases h1:i<2^j
 ·rw[cS h1,cS (show i<2^(j+1)by omega),gp (show ¬i ≥ 2^j by omega)]
  simp
 rw[gp h1,cS (show i ≥ 2^j by omega)]
 by_cases h2:i<2^(j+1)
 ·have z:(i-2^j).testBit k=i.testBit k:=by
   have e:i=2^j+(i-2^j):=oo
   conv=>rhs;rw[e]
   rw[EI h]
  rw[cS h2,cS (show i-2^j<2^j by omega),z];simp
 rw[gp h2,gp (show ¬i-2^j<2^j by omega)];simp
theorem bO(ns:List Str)(t:Tr)(i:Nat):(aP ns t).testBit i=(decide (i<2^ns.length)&&bw (inW ns i) t):=dG _ _ _
theorem M3(ns:List Str):aP ns .yes=cu ns.length:=G6 _
theorem O6(ns:List Str):aP ns .no=0:=DY _
theorem M4(ns:List Str)(t:Tr):aP ns (.not t)=cu ns.length^^^aP ns t:=by
 refine cw fun i=>?_
 rw[ft,bO,bO,fV];show(decide (i<2^ns.length) && !bw (inW ns i) t)=_;cases decide (i<2^ns.length)<;>cases bw (inW ns i) t<;>rfl
theorem M5(ns:List Str)(a b:Tr):aP ns (.bin .and a b)=aP ns a&&&aP ns b:=by
 refine cw fun i=>?_
 rw[h_,bO,bO,bO];show(decide (i<2^ns.length)&&(bw (inW ns i) a&&bw (inW ns i) b))=_;cases decide (i<2^ns.length)<;>cases bw (inW ns i) a<;>cases bw (inW ns i) b<;>rfl
theorem O7(ns:List Str)(a b:Tr):aP ns (.bin .or a b)=aP ns a|||aP ns b:=by
 refine cw fun i=>?_
 rw[fN,bO,bO,bO];show(decide (i<2^ns.length)&&(bw (inW ns i) a||bw (inW ns i) b))=_;cases decide (i<2^ns.length)<;>cases bw (inW ns i) a<;>cases bw (inW ns i) b<;>rfl
theorem M6(ns:List Str)(a b:Tr):aP ns (.bin .thn a b)=(cu ns.length^^^aP ns a)|||aP ns b:=by
 refine cw fun i=>?_
 rw[fN,ft,bO,bO,bO,fV];show(decide (i<2^ns.length)&&(!bw (inW ns i) a||bw (inW ns i) b))=_;cases decide (i<2^ns.length)<;>cases bw (inW ns i) a<;>cases bw (inW ns i) b<;>rfl
theorem Kr(ns:List Str)(a b:Tr):aP ns (.bin .same a b)=(cu ns.length^^^aP ns a)^^^aP ns b:=by
 refine cw fun i=>?_
 rw[ft,ft,bO,bO,bO,fV];show(decide (i<2^ns.length)&&(bw (inW ns i) a==bw (inW ns i) b))=_;cases decide (i<2^ns.length)<;>cases bw (inW ns i) a<;>cases bw (inW ns i) b<;>rfl
def fJ(rs:List Int)(side m:Nat):List Int:=((List.range m).filter fun i=>side.testBit i).map fun i=>rs.getD i 0
def sel(rs:List Int)(side:Nat):List Int:=fJ rs side rs.length
theorem rT(rs:List Int)(side m:Nat):fJ rs side (m+1)=fJ rs side m++if side.testBit m=true then [rs.getD m 0]else []:=by
 unfold fJ;rw[c9,cE,ax];cases h:side.testBit m with
 |true=>simp[h]
 |false=>simp[h]
theorem uL(rs:List Int)(side m:Nat):(fJ rs side m).length <= m:=by
 unfold fJ;rw[dS];refine fA (cn _ _) ?_;rw[b5];exact qnr _
def aN:List Int->Option Int
 |[]=>none
 |x::r=>some (r.foldl min x)
theorem oV:∀(r:List Int)(x:Int),(r.foldl min x=x\/r.foldl min x∈r)/\r.foldl min x<=x/\∀ a∈r,r.foldl min x<=a
 |[],x=>⟨.inl rfl,Int.le_refl _,fun a h=>nomatch h⟩
 | y::r,x=>by
  obtain⟨h1,h2,h3⟩:=oV r (min x y);show(r.foldl min (min x y)=x\/r.foldl min (min x y)∈y::r)/\r.foldl min (min x y)<=x/\∀ a∈y::r,r.foldl min (min x y)<=a;refine⟨?_,oo,fun a ha=>?_⟩
  ·rcases h1 with h1|h1
   ·rw[h1]
    by_cases h:x<=y
    ·exact .inl oo
    exact .inr (by rw[show min x y=y by omega];exact qms)
   exact .inr (k8 _ h1)
  rcases av.mp ha with rfl|ha
  ·omega
  exact h3 a ha
theorem jl{l:List Int}(h1:M∈l)(h2:∀ a∈l,M<=a):aN l=some M:=by
 cases l with
 |nil=>cases h1
 | cons x r =>
  obtain⟨q1,q2,q3⟩:=oV r x;show some (r.foldl min x)=some M
  have a1:r.foldl min x∈x::r:=by
   rcases q1 with q|q
   ·rw[q];exact qms
   exact k8 _ q
  have a2:=h2 _ a1
  have a3:r.foldl min x<=M:=by
   rcases av.mp h1 with rfl|h
   ·exact q2
   exact q3 M h
  congr 1
  exact oo
theorem eL{x:Int}:x∈sel rs sd↔∃ i,i<rs.length/\sd.testBit i=true/\rs.getD i 0=x:=by
 unfold sel fJ;rw[ck]
 constructor
 ·rintro⟨i,h,rfl⟩
  obtain⟨h1,h2⟩:=ia.mp h;exact⟨i,eI.mp h1,h2,Z⟩
 rintro⟨i,h1,h2,rfl⟩;exact⟨i,ia.mpr ⟨eI.mpr h1,h2⟩,Z⟩
theorem bf{l:List Int}(h:aN l=some M):M∈l/\∀ a∈l,M<=a:=by
 cases l with
 |nil=>cases h
 | cons x r =>
  obtain⟨q1,q2,q3⟩:=oV r x;have e:r.foldl min x=M:=iE h;rw[e]at q1 q2 q3;refine⟨?_,fun a ha=>?_⟩
  ·rcases q1 with q|q
   ·rw[q];exact qms
   exact k8 _ q
  rcases av.mp ha with rfl|ha
  ·exact q2
  exact q3 a ha
theorem gf{l:List Int}(h:aN l=none):l=[]:=by
 cases l with
 |nil=>rfl
 |cons x r=>cases h
theorem gG(ns:List Str)(t:Tr)(i:Nat):(aC ns t).testBit i=(decide (i<2^ns.length) && !bw (inW ns i) t):=dG _ _ _
theorem oW(h:rs.length=2^ns.length)(t:Tr){x:Int}(hx:x∈rs):x∈sel rs (aC ns t)\/x∈sel rs (aP ns t):=by
 obtain⟨i,hi,e⟩:=List.mem_iff_getElem.mp hx;have eg:rs.getD i 0=x:=by rw[List.getD,List.getElem?_eq_getElem hi];exact e
 cases hb:bw (inW ns i) t with
 |true=>exact .inr (eL.mpr ⟨i,hi,by rw[bO,hb,cS oo];rfl,eg⟩)
 |false=>exact .inl (eL.mpr ⟨i,hi,by rw[gG,hb,cS oo];rfl,eg⟩)
theorem gP{x:Int}(h:x∈sel rs sd):x∈rs:=by
 obtain⟨i,hi,_,e⟩:=eL.mp h;rw[List.getD,List.getElem?_eq_getElem hi]at e;rw[<- e];exact gN hi
def cT(l:Int):Int:=if 0>l then 0 else l
theorem yS(l:Int):0<=cT l:=by unfold cT;split<;>exact oo
def gW(rs:List Int)(bk:Nat)(dx dy:Int)(m:Nat):List Int:=(List.range m).map fun i=>rs.getD i 0+if bk.testBit i=true then dx else dy
def fc(rs:List Int)(bk:Nat)(x y lean:Int):List Int:=gW rs bk (cT lean-x) (cT (-lean)-y) rs.length
theorem ym(rs:List Int)(bk:Nat)(dx dy:Int)(m:Nat):gW rs bk dx dy (m+1)=gW rs bk dx dy m++[rs.getD m 0+if bk.testBit m=true then dx else dy]:=by
 unfold gW;rw[c9,ax]
 rfl
theorem rW(rs:List Int)(bk:Nat)(dx dy:Int)(m:Nat):(gW rs bk dx dy m).length=m:=by unfold gW;simp
theorem jE(rs:List Int)(bk:Nat)(x y lean:Int):(fc rs bk x y lean).length=rs.length:=rW _ _ _ _ _
theorem iw{bk:Nat}{x y:Int}(h:i<rs.length):(fc rs bk x y lean).getD i 0=rs.getD i 0+if bk.testBit i=true then cT lean-x else cT (-lean)-y:=by
 unfold fc gW;rw[List.getD,kT,List.getElem?_range h]
 rfl
theorem mem_getD{x:Int}(h:x∈rs):∃ i,i<rs.length/\rs.getD i 0=x:=by
 obtain⟨i,hi,e⟩:=List.mem_iff_getElem.mp h;exact⟨i,hi,by rw[List.getD,List.getElem?_eq_getElem hi];exact e⟩
theorem kZ(h:i<2^ns.length):(aP ns t).testBit i = !(aC ns t).testBit i:=by
 rw[bO,gG,cS h];simp
structure lj(ns:List Str)(t:Tr)(rs:List Int)(x y:Int):Prop where
 len:rs.length=2^ns.length
 br:aN (sel rs (aC ns t))=some x
 kp:aN (sel rs (aP ns t))=some y
theorem lj.E3{x y:Int}(h:lj ns t rs x y)(hi:i<rs.length)(hb:(aC ns t).testBit i=true):x<=rs.getD i 0:=(bf h.br).2 _ (eL.mpr ⟨i,hi,hb,rfl⟩)
theorem lj.E2{x y:Int}(h:lj ns t rs x y)(hi:i<rs.length)(hb:(aC ns t).testBit i=false):y<=rs.getD i 0:=(bf h.kp).2 _ (eL.mpr ⟨i,hi,by rw[kZ (by have:=h.len;exact oo),hb];rfl,rfl⟩)
theorem lj.LI{x y:Int}(h:lj ns t rs x y)(lean:Int):lj ns t (fc rs (aC ns t) x y lean) (cT lean) (cT (-lean)):=by
 have hl:=jE rs (aC ns t) x y lean;refine⟨by rw[hl];exact h.len,jl ?_ ?_,jl ?_ ?_⟩
 ·obtain⟨i,hi,hb,e⟩:=eL.mp (bf h.br).1
  refine eL.mpr ⟨i,oo,hb,?_⟩;rw[iw hi,e,b6 hb];exact oo
 ·intro a ha
  obtain⟨i,hi,hb,rfl⟩:=eL.mp ha;have hi:i<rs.length:=oo
  have:=h.E3 hi hb;rw[iw hi,b6 hb];exact oo
 ·obtain⟨i,hi,hb,e⟩:=eL.mp (bf h.kp).1
  have tw:=hb;rw[kZ (by have:=h.len;exact oo)]at tw;have tw:(aC ns t).testBit i=false:=by simpa using tw
  refine eL.mpr ⟨i,oo,hb,?_⟩;rw[iw hi,e,bq (by rw[tw];decide)];exact oo
 intro a ha;obtain⟨i,hi,hb,rfl⟩:=eL.mp ha;have hi:i<rs.length:=oo
 have tw:=hb;rw[kZ (by have:=h.len;exact oo)]at tw;have tw:(aC ns t).testBit i=false:=by simpa using tw
 have:=h.E2 hi tw;rw[iw hi,bq (by rw[tw];decide)];exact oo
theorem lj.geT{x y:Int}(h:lj ns t rs x y):∀ z∈fc rs (aC ns t) x y lean,0<=z:=by
 intro z hz;obtain⟨i,hi,rfl⟩:=mem_getD hz;rw[jE]at hi;rw[iw hi];have g1:=yS lean;have g2:=yS (-lean);cases hb:(aC ns t).testBit i with
 | true =>
  have:=h.E3 hi hb;rw[b6 rfl];exact oo
 | false =>
  have:=h.E2 hi hb;rw[bq odz];exact oo
theorem lj.LH{x y:Int}(h:lj ns t rs x y)(lean:Int):0∈fc rs (aC ns t) x y lean:=by
 have h2:=h.LI lean
 by_cases hl:0<lean
 ·have e:cT (-lean)=0:=by unfold cT;split<;>exact oo
  rw[<- e];exact gP (bf h2.kp).1
 have e:cT lean=0:=by unfold cT;split<;>exact oo
 have q:=gP (bf h2.br).1;rw[e]at q;exact q
def dh(ns:List Str)(t:Tr)(rs:List Int):List Int:=match aN (sel rs (aC ns t)),aN (sel rs (aP ns t))with
 |some x,some y=>if 0<x then fc rs (aC ns t) x y 0 else rs
 |_,_=>rs
def g8(ns:List Str)(t:Tr)(rs:List Int)(firm:Int):List Int:=match aN (sel rs (aC ns t)),aN (sel rs (aP ns t))with
 |some x,some y=>fc rs (aC ns t) x y firm
 |_,_=>rs
structure eC(ns:List Str)(rs:List Int):Prop where
 len:rs.length=2^ns.length
 ge:∀ z∈rs,0<=z
 zero:0∈rs
theorem eC.x9{x y:Int}(h:lj ns t rs x y)(lean:Int):eC ns (fc rs (aC ns t) x y lean):=⟨by rw[jE];exact h.len,h.geT,h.LH lean⟩
theorem eC.AU(h:eC ns rs)(t:Tr):eC ns (dh ns t rs):=by
 unfold dh
 split
 ·split
  ·exact eC.x9 ⟨h.len,by assumption,by assumption⟩ 0
  exact h
 exact h
theorem eC.LM(h:eC ns rs)(t:Tr)(firm:Int):eC ns (g8 ns t rs firm):=by
 unfold g8
 split
 ·exact eC.x9 ⟨h.len,by assumption,by assumption⟩ firm
 exact h
def rY(ns:List Str)(rs:List Int)(t:Tr):Prop:=∀ i,i<2^ns.length->rs.getD i 0=0->bw (inW ns i) t=true
theorem eC.AB(h:eC ns rs)(t:Tr){x:Int}(hx:aN (sel rs (aC ns t))=some x):0<=x:=h.ge x (gP (bf hx).1)
theorem eC.DO(h:eC ns rs)(t:Tr):(match aN (sel rs (aC ns t))with|none=>True|some x=>0<x)↔rY ns rs t:=by
 constructor
 ·intro q i hi e
  cases hb:bw (inW ns i) t with
  |true=>rfl
  | false =>
   have hm:(0:Int)∈sel rs (aC ns t):=eL.mpr ⟨i,by rw[h.len];exact hi,by rw[gG,hb,cS hi];rfl,e⟩;cases hl:aN (sel rs (aC ns t))with
   |none=>rw[gf hl]at hm;cases hm
   | some x =>
    rw[hl]at q;have:=(bf hl).2 _ hm;exact absurd (show 0<x from q) oo
 intro q;cases hl:aN (sel rs (aC ns t))with
 |none=>trivial
 | some x =>
  show 0<x;have hx:=h.AB t hl;obtain⟨i,hi,hb,e⟩:=eL.mp (bf hl).1;rw[gG]at hb;obtain⟨Ee,BY⟩:=aE.mp hb
  by_cases z:x=0
  ·rw[z]at e
   rw[q i (en Ee) e]at BY;cases BY
  exact oo
theorem tV{x:Int}(hb:aN (sel rs (aC ns t))=some x)(hM:eC ns rs)(hi:i<2^ns.length):(dh ns t rs).getD i 0=rs.getD i 0-if (aC ns t).testBit i=true then x else 0:=by
 have hx:=hM.ge x (gP (bf hb).1);unfold dh;rw[hb];cases hk:aN (sel rs (aP ns t))with
 | none =>
  show rs.getD i 0=_
  have:x=0:=by
   rcases oW hM.len t hM.zero with q|q
   ·have:=(bf hb).2 _ q
    exact oo
   rw[gf hk]at q;cases q
  rw[this]
  split<;>exact oo
 | some y =>
  show(if 0<x then fc rs (aC ns t) x y 0 else rs).getD i 0=_
  by_cases c:0<x
  ·rw [b6 c,iw (by rw[hM.len];exact hi)]
   have hy:y=0:=by
    have Vd:=hM.ge y (gP (bf hk).1);rcases oW hM.len t hM.zero with q|q
    ·have:=(bf hb).2 _ q
     exact oo
    have:=(bf hk).2 _ q;exact oo
   have p0:cT 0=0:=by unfold cT;split<;>exact oo
   have p1:cT (-0)=0:=p0;rw[p0,p1,hy]
   split<;>exact oo
  rw[bq c];have:x=0:=oo
  rw[this]
  split<;>exact oo
theorem jm(hi:i<2^ns.length):(aC ns t).testBit i=true↔bw (inW ns i) t=false:=by
 rw[gG,cS hi];cases bw (inW ns i) t<;>simp
theorem G8{x:Int}(hl:rs.length=2^ns.length)(hb:aN (sel rs (aC ns t))=some x):(∃ i,i<2^ns.length/\bw (inW ns i) t=false/\rs.getD i 0=x)/\∀ i,i<2^ns.length->bw (inW ns i) t=false->x<=rs.getD i 0:=by
 refine⟨?_,fun i hi h=>(bf hb).2 _ (eL.mpr ⟨i,oo,(jm hi).mpr h,Z⟩)⟩;obtain⟨i,hi,h,e⟩:=eL.mp (bf hb).1;rw[hl]at hi;exact⟨i,hi,(jm hi).mp h,e⟩
theorem uM{u:Tr}{x:Int}(hb:aN (sel rs (aC ns t))=some x)(hM:eC ns rs):rY ns (dh ns t rs) u↔rY ns rs u/\∀ i,i<2^ns.length->bw (inW ns i) t=false->rs.getD i 0=x->bw (inW ns i) u=true:=by
 have hx:=hM.ge x (gP (bf hb).1);have hl:=(G8 hM.len hb).2
 constructor
 ·intro q
  refine⟨fun i hi e=>?_,fun i hi hbi e=>?_⟩
  ·refine q i hi ?_
   rw[tV hb hM hi]
   by_cases c:(aC ns t).testBit i=true
   ·have:=hl i hi ((jm hi).mp c)
    rw[b6 c];exact oo
   rw[bq c];exact oo
  refine q i hi ?_;rw[tV hb hM hi,b6 ((jm hi).mpr hbi),e];exact oo
 rintro⟨q1,q2⟩ i hi e;rw[tV hb hM hi]at e
 by_cases c:(aC ns t).testBit i=true
 ·rw[b6 c]at e
  exact q2 i hi ((jm hi).mp c) oo
 rw[bq c]at e;exact q1 i hi oo
end Mc
namespace K67
open PySem L2 Mc
def top(i:Nat):Stmt:=PySem.Challenge.pw_mindchange_k67_whole_run_asked.main.body.getD i (.Pass ⟨0,0,0,0⟩)
abbrev S0:Stmt:=top 14
abbrev S1:Stmt:=top 15
abbrev S2:Stmt:=top 16
abbrev S3:Stmt:=top 17
abbrev S4:Stmt:=top 18
abbrev S5:Stmt:=top 19
abbrev S6:Stmt:=top 21
abbrev S7:Stmt:=top 22
abbrev S8:Stmt:=top 23
abbrev S9:Stmt:=top 24
abbrev ZG:Stmt:=top 25
abbrev Uu:Stmt:=top 26
abbrev ZF:Stmt:=top 27
abbrev ZE:Stmt:=top 28
abbrev ZD:Stmt:=top 29
abbrev ZC:Stmt:=top 30
abbrev ZA:Stmt:=top 31
abbrev Zz:Stmt:=top 33
abbrev Zy:Stmt:=top 34
abbrev Zx:Stmt:=top 35
abbrev Zw:Stmt:=top 36
abbrev Zv:Stmt:=top 37
abbrev Zu:Stmt:=top 38
abbrev S23:Stmt:=top 39
abbrev Zt:Stmt:=top 41
abbrev S25:Stmt:=top 42
abbrev Zs:Stmt:=top 43
abbrev Zr:Stmt:=top 44
abbrev Zq:Stmt:=top 46
abbrev Zp:Stmt:=top 47
abbrev Zo:Stmt:=top 48
abbrev Zn:Stmt:=top 49
abbrev Zm:Stmt:=top 50
abbrev Zl:Stmt:=inClass (top 52) 0
abbrev Zk:Stmt:=inClass (top 52) 1
abbrev Zj:Stmt:=inClass (top 52) 2
abbrev Zi:Stmt:=inClass (top 52) 3
abbrev Zh:Stmt:=inClass (top 52) 4
abbrev S38:Stmt:=inClass (top 52) 5
abbrev S39:Stmt:=inClass (top 52) 6
abbrev S40:Stmt:=inClass (top 52) 7
abbrev Zg:Stmt:=inClass (top 52) 8
abbrev S42:Stmt:=inClass (top 52) 9
abbrev S43:Stmt:=inClass (top 52) 10
abbrev S44:Stmt:=inClass (top 52) 11
abbrev Zf:Stmt:=top 58
abbrev Ze:Stmt:=top 59
abbrev Zd:Stmt:=top 60
abbrev Zc:Stmt:=inClass (top 61) 0
abbrev Zb:Stmt:=inClass (top 61) 1
abbrev Ut:Stmt:=inClass (top 61) 2
abbrev Za:Stmt:=inClass (top 61) 3
abbrev Y_:Stmt:=inClass (top 61) 4
abbrev Y':Stmt:=inClass (top 61) 5
abbrev Y9:Stmt:=inClass (top 61) 6
abbrev Y8:Stmt:=top 62
abbrev Y7:Stmt:=top 63
abbrev Y6:Stmt:=top 68
abbrev Y5:Stmt:=top 69
abbrev Y4:Stmt:=top 70
abbrev Y3:Stmt:=top 71
abbrev Y2:Stmt:=top 72
abbrev Y1:Stmt:=top 73
abbrev Y0:Stmt:=top 74
abbrev YZ:Stmt:=top 75
abbrev YY:Stmt:=top 76
abbrev YX:Stmt:=top 77
abbrev Us:Stmt:=top 78
abbrev Ur:Stmt:=top 79
abbrev Uq:Stmt:=top 80
abbrev Up:Stmt:=top 81
abbrev Uo:Stmt:=top 82
abbrev S72:Stmt:=top 83
abbrev Um:Stmt:=top 84
abbrev Ul:Stmt:=top 86
abbrev Uk:Stmt:=inClass (top 88) 0
abbrev Uj:Stmt:=top 89
abbrev Ui:Stmt:=top 90
abbrev Uh:Stmt:=top 91
abbrev S79:Stmt:=top 92
abbrev S80:Stmt:=top 93
abbrev S81:Stmt:=top 94
abbrev YW:Stmt:=top 95
abbrev Ug:Stmt:=top 96
abbrev Ue:Stmt:=top 97
abbrev Ud:Stmt:=top 98
abbrev Uc:Stmt:=top 101
abbrev YV:Stmt:=top 102
abbrev Ub:Stmt:=top 103
abbrev Ua:Stmt:=top 104
abbrev T_:Stmt:=top 105
abbrev T':Stmt:=top 107
abbrev YU:Stmt:=top 108
abbrev YT:Stmt:=top 109
abbrev YS:Stmt:=top 110
abbrev T9:Stmt:=top 111
abbrev YR:Stmt:=top 112
abbrev T8:Stmt:=top 113
abbrev YQ:Stmt:=top 114
abbrev YO:Stmt:=top 115
abbrev G9:Stmt:=top 118
abbrev Hc:Stmt:=top 119
abbrev Qw:Stmt:=top 120
abbrev M7:Stmt:=top 121
abbrev M8:Stmt:=top 122
abbrev Hd:Stmt:=top 123
abbrev Hf:Stmt:=top 124
abbrev Hg:Stmt:=top 125
abbrev M9:Stmt:=top 126
abbrev Nb:Stmt:=top 127
abbrev Nf:Stmt:=top 128
abbrev Ng:Stmt:=top 129
abbrev Hh:Stmt:=top 130
abbrev Hi:Stmt:=top 131
abbrev Hj:Stmt:=top 132
abbrev Hk:Stmt:=top 133
structure Tp(K:W.Frag)(mg:Str->Option Value)(x:Str)(st:Stmt)(ps:List Str)(f:Addr)(fd:FuncData):Prop where
 F:xl K x x st f fd
 b:Binds K fd ps []
 m:mg x=some (.ref f)
 k:W.keepIn K (.ref f)=true
structure Mp(K:W.Frag)(C:Addr)(x q:Str)(st:Stmt)(ps:List Str)(f:Addr)(fd:FuncData):Prop where
 F:xl K x q st f fd
 b:Binds K fd ps []
 e:Meth K C x f
theorem dn{X:L2.Cx} {CX:L2.r_} {k:Nat}    {sp:L2.Sp} {E:L2.XK}      {t:L2.TA}  (q:Tp X.K X.mg x st ps f fd) (F:fF X.prog X.w X.K X.mg X.base CX k f fd ps sp) (hr:eW j X.A) (hx:dM CX X E) (ha:PA X (e::es) t) (hj:k<=j:=by first|decide|omega) (hg:X.env.scope.names.lookup x=some .globalImplicit:=by kernel_rfl) (kg:(x==("__debug__":Str))=false:=by kernel_rfl) (he:starEach (e::es) X.env=(false,eval e X.env):: starEach es X.env:=by rfl) (gI:(backTo pos (starEach es X.env)).any (·.1)=false:=by rfl):PE X (.Call (.Name x p) (e::es) [] pos) (Av sp [] E t):=Ox F (hr.mono hj) q.m q.k q.b hx ha hg kg he gI
theorem Nh{X:L2.Cx} {k:Nat}    {sp:L2.Sp}      {t:L2.TA}  (q:Tp X.K X.mg x st ps f fd) (F:fF X.prog X.w X.K X.mg X.base (CX1 X.prog X.w) k f fd ps sp) (hr:eW j X.A) (ha:PA X.RA (e::es) t) (hj:k<=j:=by first|decide|omega) (hg:X.env.scope.names.lookup x=some .globalImplicit:=by kernel_rfl) (kg:(x==("__debug__":Str))=false:=by kernel_rfl) (he:starEach (e::es) X.env=(false,eval e X.env):: starEach es X.env:=by rfl) (gI:(backTo pos (starEach es X.env)).any (·.1)=false:=by rfl):Pe X (.Call (.Name x p) (e::es) [] pos) (wG sp [] t):=MJ F (hr.mono hj) q.m q.k q.b ha hg kg he gI
theorem EZ{X:L2.Cx}{CX:L2.r_}{k:Nat}{sp:L2.Sp}{E:L2.XK}{y:Str}{o:Expr}{ta:L2.TE}{t:L2.TA}{pl:Sem Bool}(he:PE X o ta)(c:tS X.K C)(q:Mp X.K C m y st ps f fd)(F:fF X.prog X.w X.K X.mg X.base CX k f fd ps sp)(hr:eW j X.A)(hx:dM CX X E)(ha:PA X (e::es) t)(hj:k<=j:=by first|decide|omega)(nB:starEach (e::es) X.env=(false,eval e X.env):: starEach es X.env:=by rfl)(gI:(backTo pos (starEach es X.env)).any (·.1)=false:=by rfl)(ht:eval (.Call (.Attribute o m apos) (e::es) [] pos) X.env=(do
   let ov <- eval o X.env
   standAt apos.atName
   let (f,first) <- holding [ov] (getMethod ov m pl)
   callWith pos f first (backTo pos (starEach (e::es) X.env)) (backToKw pos (keywordEach [] X.env))):=by rfl):PE X (.Call (.Attribute o m apos) (e::es) [] pos) (vC C m sp [] E ta t):=J1 (pl:=pl) he c q.e F (hr.mono hj) q.b .nil hx ha nB gI ht
theorem jL{X:L2.Cx}{CX:L2.r_}{k:Nat}{sp:L2.Sp}{E:L2.XK}{y:Str}{o:Expr}{ta:L2.TE}{pl:Sem Bool}(he:PE X o ta)(c:tS X.K C)(q:Mp X.K C m y st ps f fd)(F:fF X.prog X.w X.K X.mg X.base CX k f fd ps sp)(hr:eW j X.A)(hx:dM CX X E)(hj:k<=j:=by first|decide|omega)(ht:eval (.Call (.Attribute o m apos) [] [] pos) X.env=(do
   let ov <- eval o X.env
   standAt apos.atName
   let (f,first) <- holding [ov] (getMethod ov m pl)
   callWith pos f first (backTo pos (starEach [] X.env)) (backToKw pos (keywordEach [] X.env))):=by rfl):PE X (.Call (.Attribute o m apos) [] [] pos) (vC C m sp [] E ta oF):=Gq (pl:=pl) he c q.e F (hr.mono hj) q.b .nil hx ht
abbrev FM(P:Program)(w:World)(base:Heap)(_:Tp K mg x st ps f fd)(k:Nat)(sp:Sp):=fF P w K mg base (CX1 P w) k f fd ps sp
abbrev Fm(P:Program)(w:World)(mg:Str->Option Value)(base:Heap){y:Str}(_:Mp K C x y st ps f fd)(k:Nat)(sp:Sp):=fF P w K mg base (CX1 P w) k f fd ps sp
structure Tq(K:W.Frag)(x:Str)(st:Stmt)(f:Addr)(fd:FuncData):Prop where
 F:xl K x x st f fd
 a:W.nsIn K mainGlobals x=some (some (.ref f))
structure Mq(K:W.Frag)(C:Addr)(x q:Str)(st:Stmt)(f:Addr)(fd:FuncData):Prop where
 F:xl K x q st f fd
 a:W.findIn K (.ref C) x=some (some (.ref f))
 i:W.isFn K (.ref f)=true
set_option genSizeOf false in
set_option genInjectivity false in
structure ku where
 a0:Addr
 d0:FuncData
 a1:Addr
 d1:FuncData
 a2:Addr
 d2:FuncData
 a3:Addr
 d3:FuncData
 a4:Addr
 d4:FuncData
 a5:Addr
 d5:FuncData
 a6:Addr
 d6:FuncData
 a7:Addr
 d7:FuncData
 a8:Addr
 d8:FuncData
 a9:Addr
 d9:FuncData
 a10:Addr
 d10:FuncData
 YM:Addr
 Yw:FuncData
 a12:Addr
 d12:FuncData
 a13:Addr
 d13:FuncData
 a14:Addr
 d14:FuncData
 a15:Addr
 d15:FuncData
 a16:Addr
 d16:FuncData
 a17:Addr
 d17:FuncData
 a18:Addr
 d18:FuncData
 a19:Addr
 d19:FuncData
 a20:Addr
 d20:FuncData
 a21:Addr
 d21:FuncData
 a22:Addr
 d22:FuncData
 a23:Addr
 d23:FuncData
 a24:Addr
 d24:FuncData
 a25:Addr
 d25:FuncData
 a26:Addr
 d26:FuncData
 a27:Addr
 d27:FuncData
 a28:Addr
 d28:FuncData
 a29:Addr
 d29:FuncData
 a30:Addr
 d30:FuncData
 a31:Addr
 d31:FuncData
 a32:Addr
 d32:FuncData
 YL:Addr
 d33:FuncData
 a34:Addr
 d34:FuncData
 a35:Addr
 d35:FuncData
 a36:Addr
 d36:FuncData
 a37:Addr
 d37:FuncData
 a38:Addr
 d38:FuncData
 a39:Addr
 d39:FuncData
 a40:Addr
 d40:FuncData
 a41:Addr
 d41:FuncData
 a42:Addr
 d42:FuncData
 a43:Addr
 d43:FuncData
 a44:Addr
 d44:FuncData
 a45:Addr
 d45:FuncData
 a46:Addr
 d46:FuncData
 a47:Addr
 d47:FuncData
 YK:Addr
 d48:FuncData
 a49:Addr
 d49:FuncData
 a50:Addr
 d50:FuncData
 a51:Addr
 d51:FuncData
 a52:Addr
 d52:FuncData
 a53:Addr
 d53:FuncData
 a54:Addr
 d54:FuncData
 a55:Addr
 d55:FuncData
 a56:Addr
 d56:FuncData
 a57:Addr
 d57:FuncData
 a58:Addr
 d58:FuncData
 a59:Addr
 d59:FuncData
 a60:Addr
 d60:FuncData
 a61:Addr
 d61:FuncData
 a62:Addr
 d62:FuncData
 a63:Addr
 d63:FuncData
 a64:Addr
 d64:FuncData
 JO:Addr
 Yv:FuncData
 a66:Addr
 d66:FuncData
 a67:Addr
 d67:FuncData
 a68:Addr
 d68:FuncData
 a69:Addr
 d69:FuncData
 a70:Addr
 d70:FuncData
 a71:Addr
 d71:FuncData
 TL:Addr
 d72:FuncData
 a73:Addr
 d73:FuncData
 a74:Addr
 d74:FuncData
 YJ:Addr
 d75:FuncData
 Q2:Addr
 Yu:FuncData
 Q1:Addr
 Yt:FuncData
 Q0:Addr
 Ys:FuncData
 YI:Addr
 d79:FuncData
 YH:Addr
 d80:FuncData
 YG:Addr
 d81:FuncData
 a82:Addr
 d82:FuncData
 QZ:Addr
 Yr:FuncData
 QY:Addr
 Yq:FuncData
 QX:Addr
 Yp:FuncData
 YF:Addr
 Yo:FuncData
 a87:Addr
 d87:FuncData
 YE:Addr
 Yn:FuncData
 a89:Addr
 d89:FuncData
 YD:Addr
 Ym:FuncData
 a91:Addr
 d91:FuncData
 a92:Addr
 d92:FuncData
 a93:Addr
 d93:FuncData
 a94:Addr
 d94:FuncData
 YC:Addr
 Yl:FuncData
 a96:Addr
 d96:FuncData
 YB:Addr
 Yk:FuncData
 a98:Addr
 d98:FuncData
 a99:Addr
 d99:FuncData
 O0:Addr
 OW:FuncData
 T6:Addr
 TJ:FuncData
 a102:Addr
 d102:FuncData
 T4:Addr
 TH:FuncData
 T3:Addr
 TF:FuncData
 T2:Addr
 TC:FuncData
 T1:Addr
 TB:FuncData
 TZ:Addr
 Tz:FuncData
 TY:Addr
 Tx:FuncData
 TX:Addr
 Tw:FuncData
 TV:Addr
 Tv:FuncData
 TU:Addr
 Tu:FuncData
 TR:Addr
 Tt:FuncData
 TQ:Addr
 Ts:FuncData
 TN:Addr
 To:FuncData
 TM:Addr
 d115:FuncData
 (zaN zj zB zf zh zi zH zI zR zQ zaO zc za zb:Addr)
 (Z0 ZZ Z1 ZY ZX zaP:Tok)
 (zD zr zo zC zx:Addr)
structure Txt(P:Program)(w:World)(K:W.Frag)(mg:Str->Option Value)(t:ku):Prop where
 q0:Tp K mg "is_letter" S0 ["sign"] t.a0 t.d0
 q1:Tp K mg "is_name" S1 ["text"] t.a1 t.d1
 q2:Tp K mg "parts_of" S2 ["tree"] t.a2 t.d2
 q3:Tp K mg "layer_below" S3 ["layer"] t.a3 t.d3
 q4:Tp K mg "depth" S4 ["tree"] t.a4 t.d4
 q5:Tp K mg "names_in" S5 ["tree"] t.a5 t.d5
 q6:Tp K mg "bit_at" S6 ["number","place"] t.a6 t.d6
 q7:Tp K mg "last_world" S7 ["worlds"] t.a7 t.d7
 q8:Tp K mg "need_names" S8 ["names","tree"] t.a8 t.d8
 q9:Tp K mg "sides" S9 ["tree","of_names","every"] t.a9 t.d9
 q10:Tp K mg "turned_about" ZG ["side"] t.a10 t.d10
 q11:Tp K mg "joined" Uu ["kind","left","right"] t.YM t.Yw
 q12:Tp K mg "full" ZF ["names"] t.a12 t.d12
 q13:Tp K mg "worlds_with" ZE ["names","place"] t.a13 t.d13
 q14:Tp K mg "sides_of_names" ZD ["names","known_ones"] t.a14 t.d14
 q15:Tp K mg "table" ZC ["names","tree"] t.a15 t.d15
 q16:Tp K mg "breaking" ZA ["names","tree"] t.a16 t.d16
 q17:Tp K mg "flat" Zz ["names"] t.a17 t.d17
 q18:Tp K mg "least_rank" Zy ["ranks","worlds"] t.a18 t.d18
 q19:Tp K mg "firmness" Zx ["mind","tree"] t.a19 t.d19
 q20:Tp K mg "held" Zw ["mind","tree"] t.a20 t.d20
 q21:Tp K mg "both_leasts" Zv ["mind","tree"] t.a21 t.d21
 q22:Tp K mg "leaning" Zu ["mind","tree"] t.a22 t.d22
 q24:Tp K mg "need_alike" Zt ["minds"] t.a24 t.d24
 q26:Tp K mg "is_nearest_in_all" Zs ["minds","world"] t.a26 t.d26
 q27:Tp K mg "common" Zr ["minds"] t.a27 t.d27
 q28:Tp K mg "turned" Zq ["mind","tree","lean"] t.a28 t.d28
 q29:Tp K mg "given_up" Zp ["mind","tree"] t.a29 t.d29
 q30:Tp K mg "taken_on" Zo ["mind","tree","firm"] t.a30 t.d30
 q31:Tp K mg "nearest" Zn ["ranks","worlds"] t.a31 t.d31
 q32:Tp K mg "lost" Zm ["mind","tree","others"] t.a32 t.d32
 q33:Mp K t.zc "__init__" "Log.__init__" Zl ["self","names"] t.YL t.d33
 q34:Mp K t.zc "stand" "Log.stand" Zk ["self","behind"] t.a34 t.d34
 q35:Mp K t.zc "take" "Log.take" Zj ["self","tree","firm"] t.a35 t.d35
 q36:Mp K t.zc "give" "Log.give" Zi ["self","tree"] t.a36 t.d36
 q37:Mp K t.zc "turn" "Log.turn" Zh ["self","tree","lean"] t.a37 t.d37
 q41:Mp K t.zc "mind" "Log.mind" Zg ["self"] t.a41 t.d41
 q45:Tp K mg "words_of" Zf ["text"] t.a45 t.d45
 q46:Tp K mg "leaf" Ze ["word"] t.a46 t.d46
 q47:Tp K mg "takes_part" Zd ["earlier","later"] t.a47 t.d47
 q48:Mp K t.za "__init__" "Unfinished.__init__" Zc ["self"] t.YK t.d48
 q49:Mp K t.za "begin_part" "Unfinished.begin_part" Zb ["self","word"] t.a49 t.d49
 q50:Mp K t.za "follow_part" "Unfinished.follow_part" Ut ["self","word"] t.a50 t.d50
 q51:Mp K t.za "fold" "Unfinished.fold" Za ["self"] t.a51 t.d51
 q52:Mp K t.za "fold_to_bracket" "Unfinished.fold_to_bracket" Y_ ["self"] t.a52 t.d52
 q53:Mp K t.za "close_bracket" "Unfinished.close_bracket" Y' ["self"] t.a53 t.d53
 q54:Mp K t.za "whole" "Unfinished.whole" Y9 ["self"] t.a54 t.d54
 q55:Tp K mg "tree_of_words" Y8 ["words"] t.a55 t.d55
 q56:Tp K mg "read" Y7 ["text"] t.a56 t.d56
 q57:Tp K mg "rows_in" Y6 ["text"] t.a57 t.d57
 q58:Tp K mg "words_in" Y5 ["text"] t.a58 t.d58
 q59:Tp K mg "first_word" Y4 ["text"] t.a59 t.d59
 q60:Tp K mg "behind_first_word" Y3 ["text"] t.a60 t.d60
 q61:Tp K mg "is_figure" Y2 ["sign"] t.a61 t.d61
 q62:Tp K mg "number_in" Y1 ["word"] t.a62 t.d62
 q63:Tp K mg "number_above_0" Y0 ["word"] t.a63 t.d63
 q64:Tp K mg "lean_in" YZ ["word"] t.a64 t.d64
 q65:Tp K mg "names_form" YY ["text"] t.JO t.Yv
 q66:Tp K mg "numbered_form" YX ["number","text"] t.a66 t.d66
 q67:Tp K mg "take_form" Us ["text"] t.a67 t.d67
 q68:Tp K mg "lean_form" Ur ["text"] t.a68 t.d68
 q69:Tp K mg "sentence_form" Uq ["text"] t.a69 t.d69
 q70:Tp K mg "lost_form" Up ["text"] t.a70 t.d70
 q71:Tp K mg "keep_form" Uo ["text"] t.a71 t.d71
 q73:Tp K mg "bare_form" Um ["text"] t.a73 t.d73
 q74:Tp K mg "form_of" Ul ["row"] t.a74 t.d74
 q75:Mp K t.zb "__init__" "Course.__init__" Uk ["self","names"] t.YJ t.d75
 q76:Tp K mg "do_take" Uj ["course","firm","trees"] t.Q2 t.Yu
 q77:Tp K mg "do_give" Ui ["course","told","trees"] t.Q1 t.Yt
 q78:Tp K mg "do_lean" Uh ["course","lean","trees"] t.Q0 t.Ys
 q82:Tp K mg "shown_world" YW ["names","world"] t.a82 t.d82
 q83:Tp K mg "answer_ask" Ug ["mind","trees"] t.QZ t.Yr
 q84:Tp K mg "answer_lost" Ue ["mind","trees"] t.QY t.Yq
 q85:Tp K mg "answer_worlds" Ud ["mind","trees"] t.QX t.Yp
 q86:Tp K mg "do_row" Uc ["course","form"] t.YF t.Yo
 q87:Tp K mg "lacks_a_mind" YV ["course","form"] t.a87 t.d87
 q88:Tp K mg "word_against" Ub ["course","form"] t.YE t.Yn
 q89:Tp K mg "names_told" Ua ["rows"] t.a89 t.d89
 q90:Tp K mg "run" T_ ["text"] t.YD t.Ym
 q91:Tp K mg "_law_cell_at" T' ["_law_script","_law_k"] t.a91 t.d91
 q92:Tp K mg "_law_whole" YU ["_law_found"] t.a92 t.d92
 q93:Tp K mg "_law_mixed" YT ["_law_cell","_law_k"] t.a93 t.d93
 q94:Tp K mg "_law_names_by" YS ["_law_cell","_law_many"] t.a94 t.d94
 q95:Tp K mg "_law_tree_by" T9 ["_law_names","_law_cell","_law_deep"] t.YC t.Yl
 q96:Tp K mg "_law_column" YR ["_law_many","_law_place"] t.a96 t.d96
 q97:Tp K mg "_law_table" T8 ["_law_names","_law_tree"] t.YB t.Yk
 q98:Tp K mg "_law_is_mind" YQ ["_law_found","_law_names"] t.a98 t.d98
 q99:Tp K mg "_law_sides" YO ["_law_ranks","_law_told"] t.a99 t.d99
 q100:Tp K mg "_law_written" G9 ["_law_tree"] t.O0 t.OW
 q101:Tp K mg "_law_plan_by" Hc ["_law_names","_law_cell","_law_k","_law_counts"] t.T6 t.TJ
 q103:Tp K mg "_law_pairs_by" M7 ["_law_m","_law_kept"] t.T4 t.TH
 q104:Tp K mg "_law_counted" M8 ["_law_counts","_law_plan"] t.T3 t.TF
 q105:Tp K mg "_law_plans_by" Hd ["_law_names","_law_cells"] t.T2 t.TC
 q106:Tp K mg "_law_row_of" Hf ["_law_plan"] t.T1 t.TB
 q107:Tp K mg "_law_text_of" Hg ["_law_names","_law_plans"] t.TZ t.Tz
 q108:Tp K mg "_law_run_fits" M9 ["_law_found","_law_answers","_law_deeds"] t.TY t.Tx
 q109:Tp K mg "_law_told_names" Nb ["_law_script"] t.TX t.Tw
 q110:Tp K mg "_law_world_text" Nf ["_law_names","_law_world"] t.TV t.Tv
 q111:Tp K mg "_law_worlds_text" Ng ["_law_mind"] t.TU t.Tu
 q112:Tp K mg "_law_ask_fits" Hh ["_law_mind","_law_tree","_law_answer"] t.TR t.Tt
 q113:Tp K mg "_law_lost_fits" Hi ["_law_mind","_law_tree","_law_other","_law_answer"] t.TQ t.Ts
 q114:Tp K mg "_law_answer_fits" Hj ["_law_mind","_law_plan","_law_answer"] t.TN t.To
 q115:Tp K mg "law" Hk ["_law_script"] t.TM t.d115
 zu:mg "NoSentence"=some (.ref t.zj)
 Z3:ff K t.zj=true
 zy:W.excIn K t.zj tx "ValueError.__new__"=true
 zW:mg "TooDeep"=some (.ref t.zB)
 Z2:ff K t.zB=true
 Z8:W.excIn K t.zB tx "ValueError.__new__"=true
 zV:mg "NoName"=some (.ref t.zf)
 Z4:ff K t.zf=true
 Z9:W.excIn K t.zf tx "ValueError.__new__"=true
 zJ:mg "Always"=some (.ref t.zh)
 zS:ff K t.zh=true
 _a:W.excIn K t.zh tx "ValueError.__new__"=true
 UK:under K t.zh t.zh=true
 zL:mg "Never"=some (.ref t.zi)
 zT:ff K t.zi=true
 Z_:W.excIn K t.zi tx "ValueError.__new__"=true
 _b:under K t.zi t.zh=false
 UJ:under K t.zi t.zi=true
 _l:mg "NoMinds"=some (.ref t.zH)
 Z':W.excIn K t.zH tx "ValueError.__new__"=true
 _j:mg "Unlike"=some (.ref t.zI)
 Z7:W.excIn K t.zI tx "ValueError.__new__"=true
 _m:mg "NoBack"=some (.ref t.zR)
 Z5:ff K t.zR=true
 _n:mg "NoAgain"=some (.ref t.zQ)
 Z6:ff K t.zQ=true
 ZQ:mg "Log"=some (.ref t.zc)
 zg:tS K t.zc
 _h:Mk K t.zc t.YL
 zP:gd K t.zc "standing"
 zZ:gd K t.zc "taken_back"
 _k:mg "Unfinished"=some (.ref t.za)
 ze:tS K t.za
 _g:Mk K t.za t.YK
 zw:gd K t.za "trees"
 zl:gd K t.za "signs"
 ZW:mg "Course"=some (.ref t.zb)
 zk:tS K t.zb
 _i:Mk K t.zb t.YJ
 zz:gd K t.zb "log"
 _c:gd K t.zb "kept"
 zN:gd K t.zb "answers"
 zO:gd K t.zb "minds_behind"
 ZS:mg "LONGEST_NAME"=some (.int 8 t.Z0)
 ZR:mg "LONGEST_TEXT"=some (.int 200 t.ZZ)
 ZU:mg "GREATEST_DEPTH"=some (.int 40 t.Z1)
 ZP:mg "MOST_FIGURES"=some (.int 30 t.ZY)
 _o:mg "MOST_NAMES"=some (.int 8 t.ZX)
 ZT:mg "KINDS"=some (.ref t.zD)
 zD:sD P w K t.zD [(.inr "&",.str "and"),(.inr "|",.str "or"),(.inr ">",.str "then"),(.inr "=",.str "same")]
 zK:mg "BINDS"=some (.ref t.zr)
 zr:sD P w K t.zr [(.inr "&",.int 4),(.inr "|",.int 3),(.inr ">",.int 2),(.inr "=",.int 1)]
 zE:mg "FORMS"=some (.ref t.zo)
 zo:sD P w K t.zo [(.inr "names",.ref t.JO),(.inr "take",.ref t.a67),(.inr "give",.ref t.a69),(.inr "lean",.ref t.a68),(.inr "keep",.ref t.a71),(.inr "pour",.ref t.TL),(.inr "back",.ref t.a73),(.inr "again",.ref t.a73),(.inr "ask",.ref t.a69),(.inr "lost",.ref t.a70),(.inr "worlds",.ref t.a73)]
 ZV:mg "DEEDS"=some (.ref t.zC)
 zC:sD P w K t.zC [(.inr "take",.ref t.Q2),(.inr "give",.ref t.Q1),(.inr "lean",.ref t.Q0),(.inr "pour",.ref t.YI),(.inr "back",.ref t.YH),(.inr "again",.ref t.YG)]
 zU:mg "ANSWERS"=some (.ref t.zx)
 zx:sD P w K t.zx [(.inr "ask",.ref t.QZ),(.inr "lost",.ref t.QY),(.inr "worlds",.ref t.QX)]
 zF:mg "all"=none
 _e:mg "bool"=none
 zm:mg "enumerate"=none
 zG:mg "int"=none
 zq:mg "isinstance"=none
 zd:mg "len"=none
 zM:mg "list"=none
 zX:mg "max"=none
 zA:mg "min"=none
 zp:mg "range"=none
 _d:mg "sorted"=none
 zt:mg "str"=none
 zY:mg "sum"=none
 zn:mg "tuple"=none
 bl:∀(s:Shared) (u:Value),BindsTo s t.d115 ⟨[u],[]⟩ [("_law_script",u)]
end K67
seal L2.PE L2.PT L2.PW L2.PA L2.PS L2.tF L2.PG L2.LF L2.PI L2.PC L2.PO L2.LD
open PyProof.Rows
namespace K67
open PySem L2 Mc
inductive GS(K:W.Frag)(vs:List V)(H:Hp)(Q:VK)(E:XK):Prop
 |mk(a:Addr)(ns:List Int)(k:Int)(_:vs=[.ref a,.int k])(_:SqL K H a (ns.map V.int))(_:0<=k)(_:Q (.int (ns.getD k.toNat 0)) H)
section
variable{t:ku}
abbrev FO(P:Program)(w:World)(K:W.Frag)(mg:Str->Option Value)(base:Heap):=fF P w K mg base (CX1 P w)
theorem Ni:b_ ["_law_script","_law_k"] ["_law_script","_law_k"] (aV T'):=eo
theorem Ks(T:Txt P w K mg t):FM P w base T.q91 1 (GS K):=by
 refine T.q91.F.KA Ni (fun g9 A outer s H vs Q E hr h=>?_);obtain⟨a,ns,k,rfl,hS,hk,q⟩:=h
 refine⟨_,(ao (aR (aF mV (af 1) (aZ aW T.zd Bt.len (aa (af 0) aj)) (aH _))
    (aq (aA (cy bB (af 0) (af 1))))
    aO)
   (aq (aA ak))),?_⟩
 refine⟨_,Z,_,Z,a,_,Z,.inl hS,_,_,Z,Z,_,Z,?_⟩;refine aQ (fun e=>?_) (fun e=>?_)
 ·have e:k<((ns.map V.int).length:Nat):=en e
  rw[dS]at e;refine⟨_,Z,_,Z,a,_,k,.int (ns.getD k.toNat 0),Z,Z,hS,qL hk ?_,q⟩;rw[kT];have:k.toNat<ns.length:=oo
  rw[List.getElem?_eq_getElem this];simp[List.getD,List.getElem?_eq_getElem this]
 have e:¬k<((ns.map V.int).length:Nat):=fun z=>e (cS z)
 rw[dS]at e
 have z:ns.getD k.toNat 0=0:=by
  rw[List.getD,List.getElem?_eq_none oo]
  rfl
 rw[z]at q;exact q
theorem _Z(h:n<=100000):n<=sizeLine:=fA h odz
theorem m8(o:Op):¬o.str=("yes":Str)/\¬o.str=("no":Str)/\¬o.str=("not":Str)/\¬o.str=("name":Str):=by cases o<;>decide +kernel
theorem Ju{t:Tr} (h:V.str t.tag=V.str ("name":Str)):∃ x,t=.nm x:=by
 have:=(kW t).mp (V.str.inj h);cases t<;>first|exact⟨_,Z⟩|cases this
theorem Eb{t:Tr} (h:V.str t.tag=V.str ("yes":Str)):t=.yes:=by
 have h:=V.str.inj h;cases t with
 |yes=>rfl
 |nm x=>exact absurd (show("name":Str)="yes" from h) dk
 |no=>exact absurd (show("no":Str)="yes" from h) dk
 |not u=>exact absurd (show("not":Str)="yes" from h) dk
 |bin o a b=>exact absurd (show o.str=("yes":Str)from h) (m8 o).1
theorem Jv{t:Tr} (h:V.str t.tag=V.str ("no":Str)):t=.no:=by
 have h:=V.str.inj h;cases t with
 |no=>rfl
 |nm x=>exact absurd (show("name":Str)="no" from h) dk
 |yes=>exact absurd (show("yes":Str)="no" from h) dk
 |not u=>exact absurd (show("not":Str)="no" from h) dk
 |bin o a b=>exact absurd (show o.str=("no":Str)from h) (m8 o).2.1
theorem p6{o o':Op}(h:V.str o.str=V.str o'.str):o=o':=by
 have h:=V.str.inj h;cases o<;>cases o'<;>first|rfl|exact absurd h dk
theorem Bs{o:Op}{x y:Tr}(h:c8 H (.ref a) (.bin o x y)):∃ v u,H a=some (.tup [.str o.str,v,u])/\c8 H v x/\c8 H u y:=by
 cases h with
 |bin e h1 h2=>exact⟨_,_,e,h1,h2⟩
theorem Bu{x:Tr}(h:c8 H (.ref a) (.not x)):∃ v,H a=some (.tup [.str "not",v])/\c8 H v x:=by
 cases h with
 |not e h1=>exact⟨_,e,h1⟩
theorem Hl(h:c8 H (.ref a) (.nm x)):H a=some (.tup [.str "name",.str x]):=by
 cases h with
 |nm e=>exact e
inductive CM(vs:List V)(H:Hp)(Q:VK)(E:XK):Prop
 |mk(v t:_)(_:vs=[v])(_:c8 H v t)(_:∀(l:Addr)(us:List V)(H':Hp),H l=none->H' l=some (.lst us)->aT H H'->Paired (c8 H') us t.kids->Q (.ref l) H')
inductive DB(vs:List V)(H:Hp)(Q:VK)(E:XK):Prop
 |mk(a:Addr)(us:List V)(ts:List Tr)(_:vs=[.ref a])(_:H a=some (.lst us))(_:Paired (c8 H) us ts)(_:dz ts<=100000)(_:∀(l:Addr)(ws:List V)(H':Hp),H l=none->H' l=some (.lst ws)->aT H H'->Paired (c8 H') ws (ts.flatMap Tr.kids)->Q (.ref l) H')
inductive C9(vs:List V)(H:Hp)(Q:VK)(E:XK):Prop
 |mk(v t:_)(_:vs=[v])(_:c8 H v t)(_:t.size<=100000)(_:∀ H',aT H H'->Q (.int t.depth) H')
theorem u_:b_ ["tree"] ["tree"] (aV S2):=eo
theorem Hm(T:Txt P w K mg t):FM P w base T.q2 1 CM:=by
 refine T.q2.F.KA u_ (fun g9 A outer s H vs Q E hr h=>?_);obtain⟨v,tr,rfl,ht,k⟩:=h;obtain⟨a,rest,rfl,ha,D7,rS⟩:=ht.open;have nd:=u_.nd
 refine⟨_,(ao (aR (aF aU (cy aJ (pv 0) ak) az (aH _))
    (aq (aA (bz aj)))
    aO)
   (aq (aA (uz wj rfl T.zM Bt.list (aa (ik Mh (pv 0) (iG ak) jV) aj))))),?_⟩
 refine⟨_,Z,a,_,0,.str tr.tag,Z,Z,SqT.of ha,bR (j:=0) rfl,Z,_,Z,?_⟩;refine aQ (fun e=>?_) (fun e=>?_)
 ·have e:V.str tr.tag=V.str "name":=en e
  have e:=(kW tr).mp (V.str.inj e);obtain⟨x,rfl,_⟩:=D7 e;exact⟨mf _,fun l hl=>k l [] _ hl au (aB hl) .nil⟩
 have e:¬V.str tr.tag=V.str "name":=fun z=>e (cS z)
 have e:tr.isNm=false:=by
  cases q:tr.isNm with
  |false=>rfl
  |true=>exact absurd (bP V.str ((kW tr).mpr q)) e
 have hk:=rS e;refine⟨_,Z,_,Z,a,_,Z,SqT.of ha,wQ _ _,fun p hp=>⟨p,_,Z,.inr (SqT.of au),fun l hl=>?_⟩⟩;rw[G5]at hl ⊢;exact k l rest _ (DW (aB hp) hl) au ((aB hp).trans (aB hl)) (cO ((aB hp).trans (aB hl)).b9 hk)
theorem wU(T:Txt P w K mg t):FM P w base T.q3 2 DB:=by
 refine T.q3.F.eK (N:=["layer","below","tree"]) eo ?_;rintro nd _ _ _ _ H vs Q E hr ⟨a,us,ts,rfl,ha,hp,hsz,k⟩
 refine⟨_,(ao (iM (i:=1) nd rfl BM (bz aj))
   (ao (dX i7 rfl (cJ (pv 0)) (tE (i:=2) nd rfl BM)
    (aq (bA (bY PySem.F.plainAttrs_list PySem.F.slot_list_extend PySem.F.type_list_extend De (pv 1) (aa (pW (Hm T) (hr.mo) rfl T.q2.m T.q2.k T.q2.b .nil aM (aa (pv 2) aj)) aj)))))
   (aq (aA (pv 1))))),?_⟩
 refine⟨mf _,fun b hb=>?_⟩;have xS:a≠b:=aK ha hb;have s0:aT H (upd H b (.lst [])):=aB hb
 refine⟨_,rfl,a,rfl,⟨_,SqL.of (s0 _ _ ha)⟩,fW (K:=K) (a:=a) (xs:=us)
  (fun i σ H2=>∃(ws:List V)(v:Option V),σ=[some (.ref a),some (.ref b),v]/\aT H H2/\H2 b=some (.lst ws)/\Paired (c8 H2) ws ((ts.take i).flatMap Tr.kids))
  ⟨[],none,rfl,s0,au,.nil⟩ (fun i σ H2 _ ⟨_,_,_,s2,_⟩=>SqL.of (s2 _ _ ha)) ?_ ?_⟩
 ·rintro i y σ H2 hi ⟨ws,v,rfl,s2,BY,hw⟩
  obtain⟨tr,wm,hy⟩:=bN hp i y hi;refine⟨_,Z,.inl ⟨Z,_,SqL.of BY⟩,_,Z,y,tr,Z,hy.mono s2.b9,fun l FR H3 hl BQ s3 Fn=>?_⟩
  have hlen:ws.length+FR.length<=100000:=by
   have e1:=bg hw;have e2:=bg Fn
   have Iy:ts=ts.take i++tr::ts.drop (i+1):=by
    have h1:=List.take_append_drop i ts
    have h2:ts.drop i=tr::ts.drop (i+1):=by
     obtain⟨fE,he⟩:=List.getElem?_eq_some_iff.mp wm;rw[gT fE,he]
    rw[<- h2,h1]
   have e3:=jx ts;have e4:(ts.flatMap Tr.kids).length <= dz (ts.flatMap Tr.kids):=rR _
   have e5:(ts.flatMap Tr.kids).length=((ts.take i).flatMap Tr.kids).length+(tr.kids.length+((ts.drop (i+1)).flatMap Tr.kids).length):=by
    conv=>lhs;rw[Iy]
    rw[List.flatMap_append,fw,aS,aS]
   exact oo
  have xa:b≠l:=aK BY hl;have VJ:H3 b=some (.lst ws):=s3 _ _ BY;refine⟨b,l,ws,FR,Z,Z,VJ,BQ,fA hlen odz,?_⟩;refine⟨ws++FR,_,Z,fun c o e=>?_,au,?_⟩
  ·rw[aG (fun z=>by subst z;rw[hb]at e;cases e)]
   exact s3 _ _ (s2 _ _ e)
  have e6:ts.take (i+1)=ts.take i++[tr]:=by
   rw[pj,wm]
   rfl
  rw[e6,List.flatMap_append,fw,xv,bX];exact cO (wR VJ) (dg (cO s3.b9 hw) Fn)
 rintro σ H2 ⟨ws,v,rfl,s2,BY,hw⟩;refine⟨_,Z,?_⟩;have e:=bg hp;rw[e,bS]at hw;exact k b ws H2 hb BY s2 hw
inductive CU(vs:List V)(H:Hp)(Q:VK)(E:XK):Prop
 |mk(v t:_)(_:vs=[v])(_:c8 H v t)(_:t.size<=100000)(_:(∃ L:List Str,L.length<64/\∀ x∈t.names,x∈L))(_:∀(l:Addr)(ys:List Str)(H':Hp),H l=none->H' l=some (.lst (ys.map V.str))->aT H H'->sortedS ys=true->ys.Nodup->(∀ x,x∈ys↔x∈t.names)->Q (.ref l) H')
theorem Hn(T:Txt P w K mg t):FM P w base T.q5 3 CU:=by
 refine T.q5.F.eK (N:=["tree","found","layer","part"]) eo ?_;rintro nd _ _ _ _ H _ _ _ hr ⟨v,tr,rfl,ht,hsz,⟨L,hL,DZ⟩,k⟩;have hu:=fX hr
 refine ⟨_,(ao (iM (i:=1) nd rfl BM qJ)
   (ao (iM (i:=2) nd rfl BM (bz (aa (pv 0) aj)))
   (ao (j7 i7 (ig (pv 2) (fun _=>rfl))
    (ao (dX i7 rfl (cJ (pv 2)) (tE (i:=3) nd rfl BM)
     (aq (aR (aF aU (cy aJ (pv 3) ak) az (aH _))
      (aq (tL hu (pv 1) (cy aJ (pv 3) ak) eU rfl))
      aO)))
    (aq (iM (i:=2) nd rfl BM (pW (wU T) (hr.mo) rfl T.q3.m T.q3.k T.q3.b .nil aM (aa (pv 2) aj))))))
   (aq (aA (vY (wD rfl) rfl T._d Bt.sorted (aa (pv 1) aj))))))),?_⟩
 intro d hd;refine⟨_,Z,(lk obz),fun l hl=>?_⟩;have VG:d≠l:=fun z=>by subst z;rw[au]at hl;cases hl
 have IL:H l=none:=(aB hd).free hl
 let YN:Nat->L2.St->Hp->Prop:=fun m σ H2=>∃(l:Addr)(us:List V)(ts:List Tr)(kvs:List (Key×V))(ys:List Str)(pv:Option V),σ=[some v,some (.ref d),some (.ref l),pv]/\aT H H2/\H2 l=some (.lst us)/\Paired (c8 H2) us ts/\dz ts<=100000 /\
  H2 d=some (.dK kvs)/\kvs.map (·.1)=ys.map Sum.inr/\ys.Nodup/\(∀ x,x∈tr.names↔x∈ys\/x∈cX ts)/\m=dz ts
 have Vc:∀{ys:List Str},ys.Nodup->(∀ x∈ys,x∈tr.names)->ys.length<64:=fun {ys} h1 h2=>kM (kY h1 fun x hx=>DZ x (h2 x hx)) hL
 refine⟨YN,⟨_,l,[v],[tr],[],[],none,Z,(aB hd).trans (aB hl),au,.cons (ht.mono ((aB hd).trans (aB hl)).b9) .nil,?_,?_,Z,List.nodup_nil,?_,Z⟩,?_⟩
 ·show tr.size+0<=100000
  exact oo
 ·rw[aG VG,au]
 ·intro x
  simp[cX]
 rintro m σ H2 ⟨l,us,ts,kvs,ys,pv,rfl,s2,ko,hp,hz,hd2,hk,ic,ox,rfl⟩;refine⟨_,Z,_,.inl ⟨us,SqL.of ko,Z⟩,?_⟩;cases us with
 | nil =>
  cases hp;refine bu ?_
  have Fc:∀ x,x∈tr.names↔x∈ys:=fun x=>by
   have:=ox x
   simpa[cX]using this
  refine⟨_,Z,d,kvs,ys,Z,hd2,hk,Vc ic fun x hx=>(Fc x).mpr hx,fun l' ys' xE KU wo=>?_⟩;exact k l' ys' _ (s2.free xE) au (s2.trans (aB xE)) wo (KU.nodup_iff.mpr ic) fun x=>by rw[KU.mem_iff,Fc x]
 | cons u us =>
  refine bQ ?_;refine⟨fun σ' H'=>∃ m',m'<dz ts/\YN m' σ' H',fun _ _ h=>h,?_⟩
  have g7:ts≠[]:=by
   intro z;subst z;cases hp
  have hlp:=bg hp;have QA:l≠d:=fun z=>by subst z;rw[ko]at hd2;cases hd2
  refine⟨_,rfl,l,rfl,⟨_,SqL.of ko⟩,fW (K:=K) (a:=l) (xs:=u::us)
   (fun i σ H3=>∃(kvs:List (Key×V))(zs:List Str)(pv:Option V),σ=[some v,some (.ref d),some (.ref l),pv]/\(∀ b o,H2 b=some o->b≠d->H3 b=some o)/\H3 d=some (.dK kvs)/\kvs.map (·.1)=zs.map Sum.inr/\zs.Nodup /\
    (∀ x,x∈zs↔x∈ys\/Tr.nm x∈ts.take i))
   ⟨kvs,ys,pv,rfl,fun _ _ h _=>h,hd2,hk,ic,fun x=>by simp⟩ (fun i σ H3 _ ⟨_,_,_,_,s3,_⟩=>SqL.of (s3 _ _ ko QA)) ?_ ?_⟩
  ·rintro i y σ H3 hi ⟨kvs,zs,pv,rfl,s3,QH,Fn,KW,rq⟩
   obtain⟨ty,we,hy⟩:=bN hp i y hi;obtain⟨a,rest,rfl,ha,D7,rS⟩:=hy.open;have had:a≠d:=fun z=>by subst z;rw[ha]at hd2;cases hd2
   have VL:=s3 _ _ ha had
   have e6:ts.take (i+1)=ts.take i++[ty]:=by
    rw[pj,we]
    rfl
   have kH:∀ x,Tr.nm x∈ts.take (i+1)->x∈tr.names:=fun x hx=>(ox x).mpr (.inr ((oU ts x).mpr (.inl (oB hx))))
   refine⟨_,Z,a,_,0,.str ty.tag,Z,Z,SqT.of VL,bR (j:=0) rfl,Z,_,Z,?_⟩;refine aQ (fun e=>?_) (fun e=>?_)
   ·have e:V.str ty.tag=V.str "name":=en e
    have e:=(kW ty).mp (V.str.inj e);obtain⟨x,rfl,rfl⟩:=D7 e
    have hlen:zs.length<64:=Vc KW fun x hx=>by
     rcases(rq x).mp hx with h|h
     ·exact(ox x).mpr (.inl h)
     exact kH x (by rw[e6];exact sN _ h)
    have hlk:kvs.length=zs.length:=by
     have:=bP List.length Fn
     rwa [dS,dS]at this
    refine⟨_,Z,_,Z,a,_,1,.str x,Z,Z,SqT.of VL,Z,d,_,Z,tN.k (k:=Sum.inr x) QH (dR oo),?_⟩;refine⟨_,if x∈zs then zs else zs++[x],_,Z,fun b o h hb=>?_,au,DX Fn x _,?_,fun z=>?_⟩
    ·rw[aG hb]
     exact s3 b o h hb
    ·split
     ·exact KW
     exact Br KW (by assumption)
    rw[e6,aw,ar,Tr.nm.injEq]
    by_cases hx:x∈zs
    ·rw[b6 hx,rq z]
     constructor
     ·rintro(h|h)
      ·exact .inl h
      exact .inr (.inl h)
     rintro(h|h|h)
     ·exact .inl h
     ·exact .inr h
     subst h;exact(rq z).mp hx
    rw[bq hx,aw,ar,rq z]
    constructor
    ·rintro((h|h)|h)
     ·exact .inl h
     ·exact .inr (.inl h)
     exact .inr (.inr h)
    rintro(h|h|h)
    ·exact .inl (.inl h)
    ·exact .inl (.inr h)
    exact .inr h
   have e:¬V.str ty.tag=V.str "name":=fun z=>e (cS z)
   have e:ty.isNm=false:=by
    cases q:ty.isNm with
    |false=>rfl
    |true=>exact absurd (bP V.str ((kW ty).mpr q)) e
   refine⟨kvs,zs,_,Z,s3,QH,Fn,KW,fun z=>?_⟩;rw[rq z,e6,aw,ar]
   constructor
   ·rintro(h|h)
    ·exact .inl h
    exact .inr (.inl h)
   rintro(h|h|h)
   ·exact .inl h
   ·exact .inr h
   subst h;cases e
  rintro σ H3 ⟨kvs,zs,pv,rfl,s3,QH,Fn,KW,rq⟩;have t3:gs H2 H3:=fun b xs h=>s3 b _ h (fun z=>by subst z;rw[hd2]at h;cases h)
  have wx:=cO t3 hp;rw[hlp,bS]at rq;refine⟨_,Z,l,u::us,ts,Z,s3 _ _ ko QA,wx,hz,fun l' ws H' hn xE s' KU=>?_⟩;have e2:=jx ts;have e3:0<ts.length:=List.length_pos_iff.mpr g7;refine⟨_,oo,l',ws,ts.flatMap Tr.kids,kvs,zs,_,Z,fun b o h=>s' b o (s3 b o (s2 b o h) (aK h hd)),xE,KU,oo,s' _ _ QH,Fn,KW,fun x=>?_,Z⟩;rw[ox x,rq x,oU ts x,or_assoc]
def qq(H:Hp)(a:Addr)(x:Nat×Nat):Prop:=H a=some (.tup [.int x.1,.int x.2])
theorem qq.mono{x:Nat×Nat}(s:aT H H')(h:qq H a x):qq H' a x:=s _ _ h
theorem qq.b9{x:Nat×Nat}(s:gs H H')(h:qq H a x):qq H' a x:=s _ _ h
inductive vS(vs:List V)(H:Hp)(Q:VK)(E:XK):Prop
 |mk(a x:_)(_:vs=[.ref a])(_:qq H a x)(_:∀ q H',aT H H'->qq H' q (x.2,x.1)->Q (.ref q) H')
inductive y3(n:Nat)(vs:List V)(H:Hp)(Q:VK)(E:XK):Prop
 |mk(o a b x y:_)(_:vs=[.str (Op.str o),.ref a,.ref b])(_:1<=n)(_:(o=.thn -> 2<=n))(_:qq H a x)(_:qq H b y)(_:∀ q H',aT H H'->qq H' q (pY o x y)->Q (.ref q) H')
def Tells(H:Hp)(kvs:List (Key×V))(f:Str->Nat×Nat)(xs:List Str):Prop:=∀ x∈xs,∃ q,b7 kvs (.inr x)=some (.ref q)/\qq H q (f x)
theorem Tells.mono{f:Str->Nat×Nat}{xs:List Str}(s:gs H H')(h:Tells H kvs f xs):Tells H' kvs f xs:=fun x hx=>let ⟨q,e,t⟩:=h x hx;⟨q,e,t.b9 s⟩
inductive CH(d:Nat)(vs:List V)(H:Hp)(Q:VK)(E:XK):Prop
 |mk(v tr m kvs f e:_)(_:vs=[v,.ref m,.int (e:Nat)])(_:c8 H v tr)(_:tr.depth<=d)(_:H m=some (.dK kvs))(_:Tells H kvs f tr.names)(_:∀ q H',aT H H'->qq H' q (cY f e tr)->Q (.ref q) H')
theorem rZ(T:Txt P w K mg t):FM P w base T.q10 1 vS:=by
 refine T.q10.F.eK (N:=["side"]) eo ?_;rintro nd _ _ _ _ _ _ _ _ hr ⟨a,x,rfl,ha,k⟩;refine⟨_,(aq (aA (bj (aa (cy aJ (af 0) ak) (aa (cy aJ (af 0) ak) aj))))),?_⟩;refine⟨_,Z,a,_,1,.int x.2,Z,Z,SqT.of ha,Z,_,Z,a,_,0,.int x.1,Z,Z,SqT.of ha,Z,lk obz,fun q hq=>?_⟩;exact k q _ (aB hq) au
theorem n0:b_ ["kind","left","right","alike","unlike"] ["kind","left","right"] (aV Uu):=eo
theorem uN(T:Txt P w K mg t):∀ n:Nat,FO P w K mg base (n+2) t.YM t.Yw ["kind","left","right"] (y3 n)
 | 0=>by
  refine T.q11.F.rf n0 (fun vs H Q E h=>by obtain⟨o,a,b,x,y,rfl,_⟩:=h;rfl) (fun g9 A outer s H vs Q E hr h=>?_);obtain⟨o,a,b,x,y,rfl,h1,_⟩:=h;exact oo
 | n + 1=>by
  refine T.q11.F.rf n0 (fun vs H Q E h=>by obtain⟨o,a,b,x,y,rfl,_⟩:=h;rfl) (fun g9 A outer s H vs Q E hr h=>?_);obtain⟨o,a,b,x,y,rfl,h1,h2,ha,hb,k⟩:=h;have nd:=n0.nd
  refine⟨_,(ao (aR (aF aU (af 0) az (aH _))
    (aq (aA (bj (aa (aD eY (cy aJ (af 1) ak) (cy aJ (af 2) ak)) (aa (aD mU (cy aJ (af 1) ak) (cy aJ (af 2) ak)) aj)))))
    aO)
   (ao (aR (aF aU (af 0) az (aH _))
    (aq (aA (bj (aa (aD mU (cy aJ (af 1) ak) (cy aJ (af 2) ak)) (aa (aD eY (cy aJ (af 1) ak) (cy aJ (af 2) ak)) aj)))))
    aO)
   (ao (aR (aF aU (af 0) az (aH _))
    (aq (aA (dn T.q11 (uN T n) hr aM (aa az (aa (dn T.q10 (rZ T) hr aM (aa (af 1) aj)) (aa (af 2) aj))))))
    aO)
   (ao (eT 3 nd (aD mU (aD eY (cy aJ (af 1) ak) (cy aJ (af 2) ak)) (aD eY (cy aJ (af 1) ak) (cy aJ (af 2) ak))))
   (ao (eT 4 nd (aD mU (aD eY (cy aJ (af 1) ak) (cy aJ (af 2) ak)) (aD eY (cy aJ (af 1) ak) (cy aJ (af 2) ak))))
   (aq (aA (bj (aa (af 3) (aa (af 4) aj)))))))))),?_⟩
  refine⟨_,Z,Z,_,Z,aQ (fun c=>?A) (fun c1=>⟨_,Z,Z,_,Z,aQ (fun c=>?O) (fun c2=>⟨_,Z,Z,_,Z,aQ (fun c=>?T) (fun c3=>?S)⟩)⟩)⟩
  case A =>
   obtain rfl:o=.and:=p6 (o':=.and) (en c);refine⟨_,Z,a,_,0,.int x.1,Z,Z,SqT.of ha,Z,_,Z,b,_,0,.int y.1,Z,Z,SqT.of hb,Z,_,_,Z,Z,_,Z,a,_,1,.int x.2,Z,Z,SqT.of ha,Z,_,Z,b,_,1,.int y.2,Z,Z,SqT.of hb,Z,_,_,Z,Z,lk obz,fun q hq=>?_⟩;exact k q _ (aB hq) (by unfold qq;rw[au];simp only[band,bor];rfl)
  case O =>
   obtain rfl:o=.or:=p6 (o':=.or) (en c);refine⟨_,Z,a,_,0,.int x.1,Z,Z,SqT.of ha,Z,_,Z,b,_,0,.int y.1,Z,Z,SqT.of hb,Z,_,_,Z,Z,_,Z,a,_,1,.int x.2,Z,Z,SqT.of ha,Z,_,Z,b,_,1,.int y.2,Z,Z,SqT.of hb,Z,_,_,Z,Z,lk obz,fun q hq=>?_⟩;exact k q _ (aB hq) (by unfold qq;rw[au];simp only[band,bor];rfl)
  case T =>
   obtain rfl:o=.thn:=p6 (o':=.thn) (en c);refine⟨_,rfl,a,x,rfl,ha,fun q H1 s1 hq=>⟨_,rfl,.or,q,b,(x.2,x.1),y,rfl,by have:=h2 rfl;exact oo,(fun z=>by cases z),hq,hb.mono s1,fun q2 H2 s2 hq2=>?_⟩⟩;exact k q2 H2 (s1.trans s2) hq2
  case S =>
   obtain rfl:o=.same:=by
    cases o with
    |and=>exact absurd (cS rfl) c1
    |or=>exact absurd (cS rfl) c2
    |thn=>exact absurd (cS rfl) c3
    |same=>rfl
   refine⟨_,Z,a,_,0,.int x.1,Z,Z,SqT.of ha,Z,_,Z,b,_,0,.int y.1,Z,Z,SqT.of hb,Z,_,_,Z,Z,_,Z,a,_,1,.int x.2,Z,Z,SqT.of ha,Z,_,Z,b,_,1,.int y.2,Z,Z,SqT.of hb,Z,_,_,Z,Z,_,_,Z,Z,?_⟩;refine⟨_,Z,a,_,0,.int x.1,Z,Z,SqT.of ha,Z,_,Z,b,_,1,.int y.2,Z,Z,SqT.of hb,Z,_,_,Z,Z,_,Z,a,_,1,.int x.2,Z,Z,SqT.of ha,Z,_,Z,b,_,0,.int y.1,Z,Z,SqT.of hb,Z,_,_,Z,Z,_,_,Z,Z,?_⟩;refine⟨_,Z,_,Z,lk obz,fun q hq=>?_⟩;exact k q _ (aB hq) (by unfold qq;rw[au];simp only[band,bor];rfl)
theorem pf:b_ ["tree","of_names","every","kind","left"] ["tree","of_names","every"] (aV S9):=eo
theorem qP(T:Txt P w K mg t):∀ d:Nat,FO P w K mg base (d+5) t.a9 t.d9 ["tree","of_names","every"] (CH d)
 | 0=>by
  refine T.q9.F.rf pf (fun vs H Q E h=>by obtain⟨v,tr,m,kvs,f,e,rfl,_⟩:=h;rfl) (fun g9 A outer s H vs Q E hr h=>?_);obtain⟨v,tr,m,kvs,f,e,rfl,ht,hd,k⟩:=h;have:=tr.i9;exact oo
 | d + 1=>by
  refine T.q9.F.rf pf (fun vs H Q E h=>by obtain⟨v,tr,m,kvs,f,e,rfl,_⟩:=h;rfl) (fun g9 A outer s H vs Q E hr h=>?_);obtain⟨v,tr,m,kvs,f,e,rfl,ht,hd,hm,htl,k⟩:=h;obtain⟨a,rest,rfl,ha,D7,rS⟩:=ht.open;have nd:=pf.nd;have hu:=fX hr
  refine⟨_,(ao (eT 3 nd (cy aJ (af 0) ak))
   (ao (aR (aF aU (af 3) az (aH _))
    (aq (aA (yI hu (af 1) (cy aJ (af 0) ak) (fun _ _=>rfl))))
    aO)
   (ao (aR (aF aU (af 3) az (aH _))
    (aq (aA (bj (aa (af 2) (aa ak aj)))))
    aO)
   (ao (aR (aF aU (af 3) az (aH _))
    (aq (aA (bj (aa ak (aa (af 2) aj)))))
    aO)
   (ao (eT 4 nd (dn T.q9 (qP T d) hr aM (aa (cy aJ (af 0) ak) (aa (af 1) (aa (af 2) aj)))))
   (ao (aR (aF aU (af 3) az (aH _))
    (aq (aA (dn T.q10 (rZ T) hr aM (aa (af 4) aj))))
    aO)
   (aq (aA (dn T.q11 (uN T 2) hr aM (aa (af 3) (aa (af 4) (aa (dn T.q9 (qP T d) hr aM (aa (cy aJ (af 0) ak) (aa (af 1) (aa (af 2) aj)))) aj)))))))))))),?_⟩
  refine⟨_,Z,a,_,0,.str tr.tag,Z,Z,SqT.of ha,bR (j:=0) rfl,?_⟩;refine⟨_,Z,Z,_,Z,aQ (fun c=>?N) (fun c1=>⟨_,Z,Z,_,Z,aQ (fun c=>?Y) (fun c2=>⟨_,Z,Z,_,Z,aQ (fun c=>?O) (fun c3=>?R)⟩)⟩)⟩
  case N =>
   obtain⟨x,rfl⟩:=Ju (en c);obtain⟨q,hq,h2⟩:=htl x qms;refine⟨_,Z,_,Z,a,_,1,.str x,Z,Z,SqT.of (Hl ht),Z,m,_,Z,?_,k q H (aT.refl H) h2⟩;have:=tP.k (k:=.inr x) hm;rw[hq]at this;exact this
  case Y =>
   obtain rfl:=Eb (en c);exact⟨_,Z,lk obz,fun q hq=>k q _ (aB hq) au⟩
  case O =>
   obtain rfl:=Jv (en c);exact⟨_,Z,lk obz,fun q hq=>k q _ (aB hq) au⟩
  case R =>
   cases tr with
   |nm x=>exact absurd (cS rfl) c1
   |yes=>exact absurd (cS rfl) c2
   |no=>exact absurd (cS rfl) c3
   | not u =>
    obtain⟨vu,QK,RP⟩:=Bu ht;have hd:u.depth+1<=d+1:=hd;refine⟨_,Z,a,_,1,vu,Z,Z,SqT.of QK,Z,_,Z,_,Z,vu,u,m,kvs,f,e,Z,RP,oo,hm,htl,fun q H1 s1 hq=>?_⟩;refine⟨_,Z,Z,_,Z,aQ (fun c=>?_) (fun c4=>absurd (cS rfl) c4)⟩;exact⟨_,Z,q,_,Z,hq,fun q2 H2 s2 hq2=>k q2 H2 (s1.trans s2) hq2⟩
   | bin o x y =>
    obtain⟨vx,vy,xS,RO,we⟩:=Bs ht;have hd:max x.depth y.depth+1<=d+1:=hd;refine⟨_,Z,a,_,1,vx,Z,Z,SqT.of xS,Z,_,Z,_,Z,vx,x,m,kvs,f,e,Z,RO,oo,hm,fun z hz=>htl z (sN _ hz),fun q H1 s1 hq=>?_⟩;refine⟨_,Z,Z,_,Z,aQ (fun c=>absurd (V.str.inj (en c)) (m8 o).2.2.1) (fun c4=>?_)⟩;refine⟨_,Z,_,Z,_,Z,a,_,2,vy,Z,Z,SqT.of (s1 _ _ xS),Z,_,Z,_,Z,vy,y,m,kvs,f,e,Z,we.mono s1.b9,oo,s1 _ _ hm,?_,fun q2 H2 s2 hq2=>?_⟩
    ·exact Tells.mono s1.b9 fun z hz=>htl z (m_ _ hz)
    exact⟨o,q,q2,_,_,Z,odz,fun _=>qnr _,hq.mono s2,hq2,fun q3 H3 s3 hq3=>k q3 H3 ((s1.trans s2).trans s3) hq3⟩
def dm(n k:Nat):Nat:=if n.testBit k=true then 1 else 0
theorem tW(n k:Nat):Builtin.bitAnd ((n:Int)/2^((k:Int)).toNat) 1=((dm n k:Nat):Int):=by
 have e:((n:Int)/2^((k:Int)).toNat)=((n/2^k:Nat):Int):=by
  rw[bo];simp
 have e1:(1:Int)=((1:Nat):Int):=rfl;rw[e,e1,band,Nat.and_one_is_mod,Kq]
 rfl
inductive LX(vs:List V)(H:Hp)(Q:VK)(E:XK):Prop
 |mk(n k:Nat)(_:vs=[.int n,.int k])(_:Q (.int (dm n k:Nat)) H)
theorem wV(x:Str):∀ ns:List Str,vj (.str x) (ns.map V.str)=decide (x∈ns)
 |[]=>rfl
 | y::r=>by
  have ih:=wV x r;unfold vj at ih ⊢;rw[b3,ja,ih]
  have e:l9 (.str y) (.str x)=decide (y=x):=by
   show(y==x)=_
   by_cases z:y=x
   ·simp[z]
   simp[z]
  rw[e]
  by_cases z:y=x
  ·simp[z]
  by_cases z2:x∈r
  ·simp[z2]
  have z3:¬x=y:=fun h=>z h.symm
  simp[z,z2,z3]
theorem uO(ns:List Str):(ns.map V.str).all eZ=true:=by
 rw[uj];exact cm.mpr fun _ _=>rfl
def oX(x:Str):Prop:=x.length<=1000/\∀ c∈x.cps.toList,c<16^8
theorem mx.small{y:Str}(h:mx y):oX y:=⟨by rw[lF];have:=h.le;exact oo,fun c hc=>by have:=(h.ok c hc).2;exact oo⟩
inductive F9(t:ku)(vs:List V)(H:Hp)(Q:VK)(E:XK):Prop
 |mk(p:Addr)(v:V)(ns:List Str)(tr:Tr)(_:vs=[.ref p,v])(_:H p=some (.tup (ns.map V.str)))(_:c8 H v tr)(_:tr.size<=100000)(_:(∃ L:List Str,L.length<64/\∀ x∈tr.names,x∈L))(_:(∀ x∈tr.names,oX x))(_:((∀ x∈tr.names,x∈ns)->∀ H',aT H H'->Q .non H'))(_:((¬ ∀ x∈tr.names,x∈ns)->∀ H',aT H H'->E (.ref t.zf) none H'))
def Fits(H:Hp)(p:Addr)(v:V)(ns:List Str)(tr:Tr):Prop :=
 H p=some (.tup (ns.map V.str))/\ns.length<=8/\ns.Nodup/\c8 H v tr/\tr.size<=100000/\tr.depth<=110/\(∃ L:List Str,L.length<64/\∀ x∈tr.names,x∈L)/\∀ x∈tr.names,oX x
theorem oY(T:Txt P w K mg t):FM P w base T.q6 1 LX:=by
 refine T.q6.F.eK (N:=["number","place"]) eo ?_;rintro nd _ _ _ _ _ _ _ _ hr ⟨n,k,rfl,q⟩;refine⟨_,(aq (aA (aD eY (aD my (af 0) (af 1)) ak))),?_⟩;refine⟨_,Z,_,Z,_,_,Z,Z,ee k,_,_,Z,Z,?_⟩;rw[<- tW]at q;exact q
theorem yU(T:Txt P w K mg t):FM P w base T.q8 4 (F9 t):=by
 refine T.q8.F.eK (N:=["names","tree","name"]) eo ?_;rintro nd _ _ _ _ _ _ _ _ hr ⟨p,v,ns,tr,rfl,hp,ht,hsz,hL,ri,k1,k2⟩
 refine ⟨_,(aq (dX i7 rfl (cJ (dn T.q5 (Hn T) hr aM (aa (af 1) aj))) (g6 2 nd)
    (aq (aR (aF wg (af 2) (af 0) ou)
     (aq (dF eQ rfl T.zV T.Z9 (aa (GK az (tM (af 2)) az) aj)))
     aO)))),?_⟩
 refine⟨_,Z,v,tr,Z,ht,hsz,hL,fun l ys H1 hl rL s1 _ _ ox=>?_⟩
 refine⟨l,rfl,⟨_,SqL.of rL⟩,fW (K:=K) (a:=l) (xs:=ys.map V.str)
  (fun i σ H2=>∃ o:Option V,σ=[some (.ref p),some v,o]/\aT H1 H2/\∀ x∈ys.take i,x∈ns) ⟨none,rfl,aT.refl _,oz⟩ (fun i σ H2 _ ⟨_,_,s2,_⟩=>SqL.of (s2 _ _ rL)) ?_ ?_⟩
 ·rintro i y σ H2 hi ⟨o,rfl,s2,kH⟩
  rw[kT]at hi
  obtain⟨x,hx,rfl⟩:∃ x,ys[i]?=some x/\y=V.str x:=by
   cases e:ys[i]? with
   |none=>rw[e]at hi;cases hi
   |some x=>rw[e]at hi;exact⟨x,Z,(iE hi).symm⟩
  have Ve:x∈tr.names:=(ox x).mp (qh hx);refine⟨_,Z,_,Z,p,_,Z,.inr (SqT.of (s2 _ _ (s1 _ _ hp))),Z,uO ns,_,Z,?_⟩;rw[b6 rfl,wV]
  by_cases hm:x∈ns
  ·rw[cS hm]
   refine bu ?_;refine⟨_,Z,s2,fun z hz=>?_⟩;rw[pj,hx]at hz;rcases aw.mp hz with hz|hz
   ·exact kH z hz
   have:z=x:=by simpa using hz
   rw[this];exact hm
  rw[gp hm];refine bQ ?_;obtain⟨z1,z2⟩:=ri x Ve;have e1:=PySem.StrLaws.reprText_len x z2;have e3:(Str.ofString "the name ").length=9:=by decide +kernel
  have e4:(Str.ofString " is not told").length=12:=by decide +kernel
  refine⟨_,Z,dk,_,Z,x,Z,repr_fits z2 z1,_,Z,?_,_,Z,?_,so,k2 (fun z=>hm (z x Ve)) H2 (s1.trans s2)⟩
  ·rw[gE,e3];unfold sizeLine;exact oo
  rw[gE,gE,e3,e4];unfold sizeLine;exact oo
 rintro σ H2 ⟨o,rfl,s2,kH⟩;rw[dS,bS]at kH;exact k1 (fun x hx=>kH x ((ox x).mpr hx)) H2 (s1.trans s2)
theorem Ec(kvs:List (Key×V))(x y:Str)(v:V):b7 (putK kvs (.inr x) v) (.inr y)=if y=x then some v else b7 kvs (.inr y):=by
 rw[Gv]
 by_cases h:y=x
 ·rw[b6 h,b6 (by rw[h])]
 rw[bq h,bq (fun z=>h (by injection z))]
theorem Ed(hn:ns.Nodup)(hi:i<ns.length)(hj:j<ns.length)(e:ns[i]=ns[j]):i=j:=by
 rcases Nat.lt_trichotomy i j with h|h|h
 ·exact absurd e ((List.pairwise_iff_getElem.mp hn) i j hi hj h)
 ·exact h
 exact absurd e.symm ((List.pairwise_iff_getElem.mp hn) j i hj hi h)
theorem Nj(hn:ns.Nodup)(h:ns[i]?=some x):ns.idxOf x=i:=by
 obtain⟨hi,e⟩:=List.getElem?_eq_some_iff.mp h;have h1:ns.idxOf x<ns.length:=me.mpr (e ▸ gN hi);have h2:ns[ns.idxOf x]=x:=List.getElem_idxOf h1;exact Ed hn h1 hi (h2.trans e.symm)
inductive GI(vs:List V)(H:Hp)(Q:VK)(E:XK):Prop
 |mk(p:Addr)(ns:List Str)(_:vs=[.ref p])(_:H p=some (.tup (ns.map V.str)))(_:ns.length<=8)(_:Q (.int (cu ns.length:Nat)) H)
inductive F1(vs:List V)(H:Hp)(Q:VK)(E:XK):Prop
 |mk(p:Addr)(ns:List Str)(k:Nat)(_:vs=[.ref p,.int k])(_:H p=some (.tup (ns.map V.str)))(_:ns.length<=8)(_:∀ H',aT H H'->Q (.int (dH ns.length k:Nat)) H')
def E4(ns:List Str)(c:Int)(x:Str):Nat×Nat:=if (ns.idxOf x:Int)<c then L' ns x else(0,0)
inductive Rj(vs:List V)(H:Hp)(Q:VK)(E:XK):Prop
 |mk(p:Addr)(ns:List Str)(c:Int)(_:vs=[.ref p,.int c])(_:H p=some (.tup (ns.map V.str)))(_:ns.length<=8)(_:ns.Nodup)(_:∀ m kvs H',aT H H'->H' m=some (.dK kvs)->Tells H' kvs (E4 ns c) ns->Q (.ref m) H')
inductive CF(t:ku)(vs:List V)(H:Hp)(Q:VK)(E:XK):Prop
 |mk(p:Addr)(v:V)(ns:List Str)(tr:Tr)(_:vs=[.ref p,v])(_:Fits H p v ns tr)(_:((∀ x∈tr.names,x∈ns)->∀ H',aT H H'->Q (.int (aP ns tr:Nat)) H'))(_:((¬ ∀ x∈tr.names,x∈ns)->∀ H',aT H H'->E (.ref t.zf) none H'))
theorem qQ(p:Nat->Bool):∀ m,((((List.range m).filter p).map fun i=>((2^i:Nat):Int))).sum=((fL p m:Nat):Int)
 | 0=>rfl
 | m+1=>by
  rw[c9,cE,ax,A',qQ p m];show _+(((List.filter p [m]).map fun i=>((2^i:Nat):Int))).sum=((fL p m+(if p m=true then 2^m else 0):Nat):Int)
  cases hp:p m with
  |true=>simp[hp]
  |false=>simp[hp]
theorem tX(T:Txt P w K mg t):FM P w base T.q12 1 GI:=by
 refine T.q12.F.eK (N:=["names"]) eo ?_;rintro nd _ _ _ _ _ _ _ _ hr ⟨p,ns,rfl,hp,h8,k⟩;refine⟨_,(aq (aA (aD cW (aD gm ak (aD gm ak (aZ aW T.zd Bt.len (aa (af 0) aj)))) ak))),?_⟩;have mn:2^ns.length<=256:=cq (n:=2) odz h8
 have e1:(1:Int)*2^(((ns.map V.str).length:Nat):Int).toNat=((2^ns.length:Nat):Int):=by
  rw[dS,bo];simp
 have B_:cu ns.length=2^(2^ns.length)-1:=rfl;have QV:dH ns.length=fun k=>fL (fun i=>i.testBit k) (2^ns.length):=rfl
 generalize 2^ns.length=N at mn e1 B_ QV;refine⟨_,Z,p,_,Z,.inr (SqT.of hp),_,_,Z,Z,⟨by rw[dS];exact oo,by rw[dS];exact oo,odz⟩,_,_,Z,Z,⟨?_,?_,odz⟩,_,_,Z,Z,?_⟩
 ·rw[e1];exact oo
 ·rw[e1];exact oo
 have e2:(1:Int)*2^((1:Int)*2^(((ns.map V.str).length:Nat):Int).toNat).toNat-1=((cu ns.length:Nat):Int):=by
  rw[e1,bo,B_];have:1<=2^N:=ip;rw[Int.one_mul,Int.ofNat_sub this];simp
 rw[<- e2]at k;exact k
theorem Ku(T:Txt P w K mg t):FM P w base T.q13 2 F1:=by
 refine T.q13.F.eK (N:=["names","place"]) eo ?_;rintro nd _ _ _ _ H _ _ _ hr ⟨p,ns,k,rfl,hp,h8,q⟩;refine⟨_,(aq (aA (aZ (uF rfl) T.zY Bt.sum (aa (bW rfl ["world","place"] [none,some 1] (gw T.zp (aa (aD gm ak (aZ aW T.zd Bt.len (aa (af 0) aj))) aj)) kr (fun _ _ _ _ _ _=>(g6 0 (kF (l:=["world","place"])))) (fun _ _ _ _ _ _=>gr (aF aU (dn T.q6 (oY T) hr aM (aa (af 0) (aa (g5 1) aj))) ak (aH _))) (fun _ _ _ _ _ _=>(aD gm ak (af 0)))) aj)))),?_⟩;have mn:2^ns.length<=256:=cq (n:=2) odz h8
 have e1:(1:Int)*2^(((ns.map V.str).length:Nat):Int).toNat=((2^ns.length:Nat):Int):=by
  rw[dS,bo];simp
 have B_:cu ns.length=2^(2^ns.length)-1:=rfl;have QV:dH ns.length=fun k=>fL (fun i=>i.testBit k) (2^ns.length):=rfl
 generalize 2^ns.length=N at mn e1 B_ QV;refine⟨_,Z,p,_,Z,.inr (SqT.of hp),_,_,Z,Z,⟨by rw[dS];exact oo,by rw[dS];exact oo,odz⟩,?_⟩
 try dsimp only
 rw[e1];refine⟨_,Z,oo,oo,?_⟩;rw[bo];refine jN (n:=N) (fun i ys H'=>H'=H/\ys=((List.range i).filter fun j=>j.testBit k).map fun j=>V.int ((2^j:Nat):Int)) ⟨rfl,rfl⟩ (_Z oo) (fun i ys H' ⟨_,e⟩=>?_) ?_ ?_
 ·rw[e,dS]
  refine fA (cn _ _) ?_;rw[b5];exact qnr _
 ·rintro i ys H' hi ⟨rfl,rfl⟩
  refine⟨⟨Z,trivial⟩,?_⟩;refine⟨_,Z,_,Z,i,k,?_,Z,_,Z,?_⟩
  ·rw[fz];rfl
  unfold dm;rw[c9,cE,ax];cases hb:i.testBit k with
  | true =>
   refine bQ ?_;refine⟨_,Z,_,_,Z,Z,⟨oo,oo,odz⟩,Z,?_⟩
   try dsimp only
   rw[m3,b6 hb,fz,bo];simp
  | false =>
   refine bu ⟨rfl,?_⟩;rw[m3,bq (by rw[hb];decide)];simp
 rintro ys H' ⟨rfl,rfl⟩ l hl;refine⟨l,((List.range N).filter fun j=>j.testBit k).map fun j=>((2^j:Nat):Int),Z,SqL.of (by rw[au,eD];rfl),?_⟩;have q:=q _ (aB (o:=.lst (((List.range N).filter fun j=>j.testBit k).map fun j=>V.int ((2^j:Nat):Int))) hl);rw[QV]at q;dsimp only at q;rw[<- qQ]at q;exact q
theorem O8(T:Txt P w K mg t):FM P w base T.q14 3 Rj:=by
 refine T.q14.F.eK (N:=["names","known_ones","of_names","place","name","kept"]) eo ?_;rintro nd _ _ _ _ H _ _ _ hr ⟨p,ns,c,rfl,hp,h8,ic,k⟩;have hu:=fX hr
 refine⟨_,(ao (eT 2 nd qJ)
   (ao (dX i7 rfl (jC (af 0) T.zm) (mj (n:=2) rfl (bG (g6 3 nd) (bG (g6 4 nd) eO)))
    (ao (eT 5 nd (dn T.q13 (Ku T) hr aM (aa (af 0) (aa (af 3) aj))))
    (aq (tL hu (af 2) (af 4) (fD (aF mV (af 3) (af 1) (aH _)) (bj (aa (af 5) (aa (aD mz (dn T.q12 (tX T) hr aM (aa (af 0) aj)) (af 5)) aj))) (bj (aa ak (aa ak aj)))) rfl))))
   (aq (aA (af 2))))),?_⟩
 intro m hm;have s0:aT H (upd H m (.dK [])):=aB hm
 refine⟨_,rfl,p,rfl,⟨_,SqT.of (s0 _ _ hp)⟩,uH (K:=K) (a:=p) (xs:=ns.map V.str)
  (fun i σ H2=>∃(o3 o4 o5:Option V)(kvs:List (Key×V)),σ=[some (.ref p),some (.int c),some (.ref m),o3,o4,o5]/\aT H H2/\H2 m=some (.dK kvs)/\kvs.length<=i/\Tells H2 kvs (E4 ns c) (ns.take i))
  ⟨none,none,none,[],rfl,s0,au,qnr _,(fun x hx=>by simp at hx)⟩ (fun i σ H2 _ ⟨_,_,_,_,_,s2,_⟩=>SqT.of (s2 _ _ hp)) ?_ ?_⟩
 ·rintro i y σ H2 hi ⟨o3,o4,o5,kvs,rfl,s2,nc,ko,htl⟩ e he
  rw[kT]at hi
  obtain⟨x,hx,rfl⟩:∃ x,ns[i]?=some x/\y=V.str x:=by
   cases q:ns[i]? with
   |none=>rw[q]at hi;cases hi
   |some x=>rw[q]at hi;exact⟨x,Z,(iE hi).symm⟩
  have hi8:i<8:=by
   have:=(List.getElem?_eq_some_iff.mp hx).1;exact oo
  have VC:=Nj ic hx;have s3:=aB (o:=.tup [.int i,.str x]) he;refine⟨e,_,Z,SqT.of au,Z,_,_,Z,_,_,Z,Z,?_⟩;refine⟨_,Z,_,Z,p,ns,i,Z,s3 _ _ (s2 _ _ hp),h8,fun H4 s4=>?_⟩;have DH:=s3.trans s4
  have fin:∀(q:Addr)(x1:Nat×Nat)(H5:Hp),aT H4 H5->qq H5 q x1->E4 ns c x=x1 ->
    (∃(o3 o4 o5:Option V)(HZ:List (Key×V)),[some (V.ref p),some (V.int c),some (V.ref m),some (V.int i),some (V.str x),some (V.int (dH ns.length i:Nat))]=[some (.ref p),some (.int c),some (.ref m),o3,o4,o5]/\aT H (upd H5 m (.dK (putK kvs (.inr x) (.ref q))))/\(upd H5 m (.dK (putK kvs (.inr x) (.ref q)))) m=some (.dK HZ)/\HZ.length<=i+1/\Tells (upd H5 m (.dK (putK kvs (.inr x) (.ref q)))) HZ (E4 ns c) (ns.take (i+1))):=by
   intro q x1 H5 s5 hq hof;have AJ:=s5 _ _ (DH _ _ nc)
   have kt:gs H5 (upd H5 m (.dK (putK kvs (.inr x) (.ref q)))):=fun b xs eb=>by
    rw[aG (fun z=>by subst z;rw[AJ]at eb;cases eb)];exact eb
   refine⟨_,_,_,_,Z,fun b o eb=>?_,au,fA (jw kvs (.inr x) (.ref q)) oo,fun z hz=>?_⟩
   ·rw[aG (aK eb hm)]
    exact s5 _ _ (DH _ _ (s2 _ _ eb))
   rw[Ec]
   by_cases RK:z=x
   ·subst RK
    rw[b6 rfl,hof];exact⟨q,Z,hq.b9 kt⟩
   rw[bq RK];rw[pj,hx]at hz;rcases aw.mp hz with hz|hz
   ·obtain⟨q',h1,h2⟩:=htl z hz
    exact⟨q',h1,h2.b9 ((DH.trans s5).b9.trans kt)⟩
   exact absurd (by simpa using hz) RK
  refine⟨_,Z,_,Z,_,_,Z,Z,_,Z,aQ (fun cc=>?_) (fun cc=>?_)⟩
  ·have cc:(i:Int)<c:=en cc
   refine⟨_,Z,_,Z,p,ns,Z,DH _ _ (s2 _ _ hp),h8,_,Z,_,_,Z,Z,lk obz,fun q hq=>?_⟩;have E':=hq;have s5:=aB (o:=.tup [.int (dH ns.length i:Nat),.int (Builtin.bitXor (cu ns.length:Nat) (dH ns.length i:Nat))]) hq;refine⟨_,Z,_,Z,m,_,Z,tN.k (k:=Sum.inr x) (s5 _ _ (DH _ _ nc)) (dR oo),?_⟩;refine fin q (dH ns.length i,cu ns.length^^^dH ns.length i) _ s5 (by unfold qq;rw[au];simp only[bxor]) ?_;unfold E4 L';rw[VC,b6 cc]
  have cc:¬(i:Int)<c:=fun z=>cc (cS z)
  refine⟨lk obz,fun q hq=>?_⟩;have s5:=aB (o:=.tup [.int 0,.int 0]) hq;refine⟨_,Z,_,Z,m,_,Z,tN.k (k:=Sum.inr x) (s5 _ _ (DH _ _ nc)) (dR oo),?_⟩;refine fin q (0,0) _ s5 au ?_;unfold E4;rw[VC,bq cc]
 rintro σ H2 ⟨o3,o4,o5,kvs,rfl,s2,nc,ko,htl⟩;rw[dS,bS]at htl;exact⟨_,Z,k m kvs H2 s2 nc htl⟩
theorem wW(T:Txt P w K mg t):FM P w base T.q15 116 (CF t):=by
 refine T.q15.F.eK (N:=["names","tree"]) eo ?_;rintro nd _ _ _ _ H vs Q E hr ⟨p,v,ns,tr,rfl,⟨hp,h8,ic,ht,hsz,hd,hL,ri⟩,k1,k2⟩
 refine⟨_,(ao (bA (dn T.q8 (yU T) hr bx (aa (af 0) (aa (af 1) aj))))
   (aq (aA (cy aJ (dn T.q9 (qP T 110) hr aM (aa (af 1) (aa (dn T.q14 (O8 T) hr aM (aa (af 0) (aa (aZ aW T.zd Bt.len (aa (af 0) aj)) aj))) (aa (dn T.q12 (tX T) hr aM (aa (af 0) aj)) aj)))) ak)))),?_⟩
 refine⟨_,Z,_,Z,p,v,ns,tr,Z,hp,ht,hsz,hL,ri,fun hall H1 s1=>?_,fun ow H1 s1=>k2 ow H1 s1⟩;refine⟨_,Z,_,Z,_,Z,p,_,Z,.inr (SqT.of (s1 _ _ hp)),p,ns,_,Z,s1 _ _ hp,h8,ic,fun m kvs H2 s2 hm htl=>?_⟩;refine⟨_,Z,p,ns,Z,s2 _ _ (s1 _ _ hp),h8,v,tr,m,kvs,_,_,Z,ht.mono (s1.trans s2).b9,hd,hm,fun x hx=>htl x (hall x hx),fun q H3 s3 hq=>?_⟩
 have e:(cY (E4 ns (((ns.map V.str).length:Nat):Int)) (cu ns.length) tr).1=aP ns tr:=by
  rw[<- yl];refine bP Prod.fst (iT fun x hx=>?_);unfold E4;rw[b6];have:=me.mpr (hall x hx);rw[dS];exact oo
 refine⟨q,_,0,_,Z,Z,SqT.of hq,Z,?_⟩;have k1:=k1 hall H3 ((s1.trans s2).trans s3);rw[<- e]at k1;exact k1
inductive DA(t:ku)(vs:List V)(H:Hp)(Q:VK)(E:XK):Prop
 |mk(p:Addr)(v:V)(ns:List Str)(tr:Tr)(_:vs=[.ref p,v])(_:Fits H p v ns tr)(_:((∀ x∈tr.names,x∈ns)->∀ H',aT H H'->Q (.int (aC ns tr:Nat)) H'))(_:((¬ ∀ x∈tr.names,x∈ns)->∀ H',aT H H'->E (.ref t.zf) none H'))
theorem m9(T:Txt P w K mg t):FM P w base T.q16 117 (DA t):=by
 refine T.q16.F.eK (N:=["names","tree"]) eo ?_;rintro nd _ _ _ _ H vs Q E hr ⟨p,v,ns,tr,rfl,hf,k1,k2⟩;refine⟨_,(aq (aA (aD mz (dn T.q12 (tX T) hr aM (aa (af 0) aj)) (dn T.q15 (wW T) hr bx (aa (af 0) (aa (af 1) aj)))))),?_⟩;refine⟨_,Z,p,ns,Z,hf.1,hf.2.1,_,Z,_,Z,p,v,ns,tr,Z,hf,fun hall H1 s1=>?_,k2⟩;refine⟨_,_,Z,Z,?_⟩;have k1:=k1 hall H1 s1;rw[<- qx,<- bxor]at k1;exact k1
def lW:Option Int->V
 |none=>.non
 |some m=>.int m
def gh:Option Int->Bool
 |none=>true
 |some m=>decide (0<m)
inductive yB(vs:List V)(H:Hp)(Q:VK)(E:XK):Prop
 |mk(r:Addr)(rs:List Int)(wd:Nat)(_:vs=[.ref r,.int wd])(_:H r=some (.tup (rs.map V.int)))(_:rs.length<=256)(_:∀ H',aT H H'->Q (lW (aN (sel rs wd))) H')
def cb(H:Hp)(a:Addr)(p r:Addr)(rs:List Int):Prop:=H a=some (.tup [.ref p,.ref r])/\H r=some (.tup (rs.map V.int))/\rs.length<=256
theorem cb.mono{p r:Addr}(s:aT H H')(h:cb H a p r rs):cb H' a p r rs:=⟨s _ _ h.1,s _ _ h.2.1,h.2.2⟩
inductive GO(t:ku)(vs:List V)(H:Hp)(Q:VK)(E:XK):Prop
 |mk(a p r:Addr)(rs:List Int)(v:V)(ns:List Str)(tr:Tr)(_:vs=[.ref a,v])(_:cb H a p r rs)(_:Fits H p v ns tr)(_:((∀ x∈tr.names,x∈ns)->∀ H',aT H H'->Q (lW (aN (sel rs (aC ns tr)))) H'))(_:((¬ ∀ x∈tr.names,x∈ns)->∀ H',aT H H'->E (.ref t.zf) none H'))
inductive GG(t:ku)(vs:List V)(H:Hp)(Q:VK)(E:XK):Prop
 |mk(a p r:Addr)(rs:List Int)(v:V)(ns:List Str)(tr:Tr)(_:vs=[.ref a,v])(_:cb H a p r rs)(_:Fits H p v ns tr)(_:((∀ x∈tr.names,x∈ns)->∀ H',aT H H'->Q (.bl (gh (aN (sel rs (aC ns tr))))) H'))(_:((¬ ∀ x∈tr.names,x∈ns)->∀ H',aT H H'->E (.ref t.zf) none H'))
theorem oZ(T:Txt P w K mg t):FM P w base T.q18 2 yB:=by
 refine T.q18.F.eK (N:=["ranks","worlds"]) eo ?_;rintro nd _ _ _ _ H _ _ _ hr ⟨r,rs,wd,rfl,vv,hlen,k⟩;refine⟨_,(aq (aA (Kg rfl (bW rfl ["world","rank","worlds"] [none,none,some 1] (jC (af 0) T.zm) kr (fun _ _ _ _ _ _=>(jg (K:=K) (n:=2) rfl rfl (bG (g6 0 (kF (l:=["world","rank","worlds"]))) (bG (g6 1 (kF (l:=["world","rank","worlds"]))) eO)))) (fun _ _ _ _ _ _=>gr (aF aU (dn T.q6 (oY T) hr aM (aa (g5 2) (aa (af 0) aj))) ak (aH _))) (fun _ _ _ _ _ _=>(af 1))) T.zA))),?_⟩;refine⟨_,Z,r,Z,⟨_,SqT.of vv⟩,?_⟩;refine gO (K:=K) (a:=r) (xs:=rs.map V.int) (fun i ys H'=>aT H H'/\ys=(fJ rs wd i).map V.int) ⟨aT.refl _,rfl⟩ (lk (by rw[dS];exact oo)) (fun i ys H' ⟨_,e⟩=>by rw[e,dS];exact uL _ _ _) (fun i ys H' ⟨s1,_⟩=>SqT.of (s1 _ _ vv)) ?_ ?_
 ·rintro i y ys H1 hi ⟨s1,rfl⟩ e he
  rw[kT]at hi
  obtain⟨x,hx,rfl⟩:∃ x,rs[i]?=some x/\y=V.int x:=by
   cases q:rs[i]? with
   |none=>rw[q]at hi;cases hi
   |some x=>rw[q]at hi;exact⟨x,Z,(iE hi).symm⟩
  have s2:=s1.trans (aB (o:=.tup [.int i,.int x]) he);refine⟨e,_,Z,SqT.of au,Z,_,_,Z,_,_,Z,Z,⟨Z,trivial⟩,?_⟩;refine⟨_,Z,_,Z,wd,i,Z,Z,_,Z,?_⟩;rw[rT];unfold dm;have ex:rs.getD i 0=x:=by rw[List.getD,hx];rfl
  cases hb:wd.testBit i with
  | true =>
   refine bQ ?_;refine⟨_,Z,s2,?_⟩;rw[b6 rfl,ax,ex]
   rfl
  | false =>
   refine bu ⟨s2,?_⟩;rw[bq odz,bX]
 rintro ys H1 ⟨s1,rfl⟩ l hl;rw[dS];have s2:=s1.trans (aB (o:=.lst ((fJ rs wd rs.length).map V.int)) hl);refine⟨l,fJ rs wd rs.length,Z,SqL.of au,fun e=>?_,fun M h1 h2=>?_⟩
 ·have k:=k _ s2
  unfold sel at k;rw[e]at k;exact e ▸ k
 have k:=k _ s2;unfold sel at k;rw[jl h1 h2]at k;exact k
theorem tY(T:Txt P w K mg t):FM P w base T.q19 118 (GO t):=by
 refine T.q19.F.eK (N:=["mind","tree"]) eo ?_;rintro nd _ _ _ _ _ _ _ _ hr ⟨a,p,r,rs,v,ns,tr,rfl,hm,hf,k1,k2⟩;refine⟨_,(aq (aA (dn T.q18 (oZ T) hr aM (aa (cy aJ (af 0) ak) (aa (dn T.q16 (m9 T) hr bx (aa (cy aJ (af 0) ak) (aa (af 1) aj))) aj))))),?_⟩;refine⟨_,Z,a,_,1,.ref r,Z,Z,SqT.of hm.1,Z,_,Z,a,_,0,.ref p,Z,Z,SqT.of hm.1,Z,_,Z,p,v,ns,tr,Z,hf,fun hall H1 s1=>?_,k2⟩;exact⟨r,rs,aC ns tr,Z,s1 _ _ hm.2.1,hm.2.2,fun H2 s2=>k1 hall H2 (s1.trans s2)⟩
theorem p7(T:Txt P w K mg t):FM P w base T.q20 119 (GG t):=by
 refine T.q20.F.eK (N:=["mind","tree","firm"]) eo ?_;rintro nd _ _ _ _ H vs Q E hr ⟨a,p,r,rs,v,ns,tr,rfl,hm,hf,k1,k2⟩
 refine⟨_,(ao (eT 2 nd (dn T.q19 (tY T) hr bx (aa (af 0) (aa (af 1) aj))))
   (aq (aA (Oc (b8 gU (af 2) bK (aH _)) (lZ (b8 mW (af 2) ak (aH _))))))),?_⟩
 refine⟨_,Z,_,Z,a,p,r,rs,v,ns,tr,Z,hm,hf,fun hall H1 s1=>?_,k2⟩;have k1:=k1 hall H1 s1;refine⟨_,Z,Z,_,Z,?_⟩;cases ho:aN (sel rs (aC ns tr))with
 | none =>
  rw[ho]at k1;rw[show decide (lW none=V.non)=true from cS rfl];exact bQ k1
 | some m =>
  rw[ho]at k1;rw[show decide (lW (some m)=V.non)=false from gp (by intro z;cases z)];refine bu ⟨_,rfl,_,_,rfl,rfl,k1⟩
inductive GU(t:ku)(vs:List V)(H:Hp)(Q:VK)(E:XK):Prop
 |mk(a p r:Addr)(rs:List Int)(v:V)(ns:List Str)(tr:Tr)(_:vs=[.ref a,v])(_:cb H a p r rs)(_:Fits H p v ns tr)(_:((∀ x∈tr.names,x∈ns)->match aN (sel rs (aC ns tr)),aN (sel rs (aP ns tr))with|none,_=>∀ H',aT H H'->E (.ref t.zh) none H'|some _,none=>∀ H',aT H H'->E (.ref t.zi) none H'|some x,some y=>∀(b:Addr)(H':Hp),aT H H'->H' b=some (.tup [.int x,.int y])->Q (.ref b) H'))(_:((¬ ∀ x∈tr.names,x∈ns)->∀ H',aT H H'->E (.ref t.zf) none H'))
theorem yV(T:Txt P w K mg t):FM P w base T.q21 119 (GU t):=by
 refine T.q21.F.eK (N:=["mind","tree","against","in_favour"]) eo ?_;rintro nd _ _ _ _ H vs Q E hr ⟨a,p,r,rs,v,ns,tr,rfl,hm,hf,k1,k2⟩
 refine⟨_,(ao (eT 2 nd (dn T.q19 (tY T) hr bx (aa (af 0) (aa (af 1) aj))))
   (ao (aR (aF gU (af 2) bK (aH _))
    (aq (dF eQ rfl T.zJ T._a (aa az aj)))
    aO)
   (ao (eT 3 nd (dn T.q18 (oZ T) hr aM (aa (cy aJ (af 0) ak) (aa (dn T.q15 (wW T) hr bx (aa (cy aJ (af 0) ak) (aa (af 1) aj))) aj))))
   (ao (aR (aF gU (af 3) bK (aH _))
    (aq (dF eQ rfl T.zL T.Z_ (aa az aj)))
    aO)
   (aq (aA (bj (aa (af 2) (aa (af 3) aj))))))))),?_⟩
 refine⟨_,Z,_,Z,a,p,r,rs,v,ns,tr,Z,hm,hf,fun hall H1 s1=>?_,k2⟩;have k1:=k1 hall;refine⟨_,Z,Z,_,Z,?_⟩;cases hb:aN (sel rs (aC ns tr))with
 | none =>
  rw[hb]at k1;rw[show decide (lW none=V.non)=true from cS rfl];exact bQ ⟨so,k1 H1 s1⟩
 | some x =>
  rw[hb]at k1;rw[show decide (lW (some x)=V.non)=false from gp (by intro z;cases z)];refine bu ?_;have hm1:=hm.mono s1;obtain⟨hp,h8,ic,ht,hsz,hd,hL,ri⟩:=id hf;refine⟨_,Z,a,_,1,.ref r,Z,Z,SqT.of hm1.1,Z,_,Z,a,_,0,.ref p,Z,Z,SqT.of hm1.1,Z,_,Z,p,v,ns,tr,Z,⟨s1 _ _ hp,h8,ic,ht.mono s1.b9,hsz,hd,hL,ri⟩,fun _ H2 s2=>?_,fun z=>absurd hall z⟩;refine⟨r,rs,aP ns tr,Z,s2 _ _ hm1.2.1,hm1.2.2,fun H3 s3=>?_⟩;have iP:=(s1.trans s2).trans s3;refine⟨_,Z,Z,_,Z,?_⟩;cases hk:aN (sel rs (aP ns tr))with
  | none =>
   rw[hk]at k1;rw[show decide (lW none=V.non)=true from cS rfl];exact bQ ⟨so,k1 H3 iP⟩
  | some y =>
   rw[hk]at k1;rw[show decide (lW (some y)=V.non)=false from gp (by intro z;cases z)];exact bu ⟨_,rfl,_,rfl,lk obz,fun b hb=>k1 b _ (iP.trans (aB hb)) au⟩
inductive GA(t:ku)(vs:List V)(H:Hp)(Q:VK)(E:XK):Prop
 |mk(a p r:Addr)(rs:List Int)(v:V)(ns:List Str)(tr:Tr)(_:vs=[.ref a,v])(_:cb H a p r rs)(_:Fits H p v ns tr)(_:((∀ x∈tr.names,x∈ns)->match aN (sel rs (aC ns tr)),aN (sel rs (aP ns tr))with|none,_=>∀ H',aT H H'->E (.ref t.zh) none H'|some _,none=>∀ H',aT H H'->E (.ref t.zi) none H'|some x,some y=>∀ H',aT H H'->Q (.int (x-y)) H'))(_:((¬ ∀ x∈tr.names,x∈ns)->∀ H',aT H H'->E (.ref t.zf) none H'))
theorem Kv(T:Txt P w K mg t):FM P w base T.q22 120 (GA t):=by
 refine T.q22.F.eK (N:=["mind","tree","leasts"]) eo ?_;rintro nd _ _ _ _ H vs Q E hr ⟨a,p,r,rs,v,ns,tr,rfl,hm,hf,k1,k2⟩
 refine⟨_,(ao (eT 2 nd (dn T.q21 (yV T) hr bx (aa (af 0) (aa (af 1) aj))))
   (aq (aA (aD cW (cy aJ (af 2) ak) (cy aJ (af 2) ak))))),?_⟩
 refine⟨_,Z,_,Z,a,p,r,rs,v,ns,tr,Z,hm,hf,fun hall=>?_,k2⟩;have k1:=k1 hall;cases hb:aN (sel rs (aC ns tr))with
 |none=>rw[hb]at k1;exact k1
 | some x =>
  rw[hb]at k1;cases hk:aN (sel rs (aP ns tr))with
  |none=>rw[hk]at k1;exact k1
  | some y =>
   rw[hk]at k1;exact fun b H1 s1 Ee=>⟨_,rfl,b,_,0,.int x,rfl,rfl,SqT.of Ee,rfl,_,rfl,b,_,1,.int y,rfl,rfl,SqT.of Ee,rfl,_,_,rfl,rfl,k1 H1 s1⟩
inductive F3(t:ku)(vs:List V)(H:Hp)(Q:VK)(E:XK):Prop
 |mk(a p r:Addr)(rs:List Int)(v:V)(ns:List Str)(tr:Tr)(lean:Int)(_:vs=[.ref a,v,.int lean])(_:cb H a p r rs)(_:Fits H p v ns tr)(_:((∀ x∈tr.names,x∈ns)->match aN (sel rs (aC ns tr)),aN (sel rs (aP ns tr))with|none,_=>∀ H',aT H H'->E (.ref t.zh) none H'|some _,none=>∀ H',aT H H'->E (.ref t.zi) none H'|some x,some y=>∀(b q:Addr)(H':Hp),aT H H'->cb H' b p q (fc rs (aC ns tr) x y lean)->Q (.ref b) H'))(_:((¬ ∀ x∈tr.names,x∈ns)->∀ H',aT H H'->E (.ref t.zf) none H'))
theorem tZ(T:Txt P w K mg t):FM P w base T.q28 120 (F3 t):=by
 refine T.q28.F.eK (N:=["mind","tree","lean","leasts","for_breaking","for_keeping","against","ranks"]) eo ?_;rintro nd _ _ _ _ H vs Q E hr ⟨a,p,r,rs,v,ns,tr,lean,rfl,hm,hf,k1,k2⟩
 refine⟨_,(ao (eT 3 nd (dn T.q21 (yV T) hr bx (aa (af 0) (aa (af 1) aj))))
   (ao (DM 4 nd (aD cW (aZ (uq rfl) T.zX Bt.max (aa (af 2) (aa ak aj))) (cy aJ (af 3) ak)))
   (ao (DM 5 nd (aD cW (aZ (uq rfl) T.zX Bt.max (aa (mR j9 (af 2)) (aa ak aj))) (cy aJ (af 3) ak)))
   (ao (DM 6 nd (dn T.q16 (m9 T) hr bx (aa (cy aJ (af 0) ak) (aa (af 1) aj))))
   (ao (iR (i:=7) rfl ["world","rank","for_breaking","for_keeping","against"] [none,none,some 4,some 5,some 6] nd rfl rfl (jC (cy aJ (af 0) ak) T.zm) kr (fun _ _ _ _ _ _=>(jg (K:=K) (n:=2) rfl rfl (bG (g6 0 (kF (l:=["world","rank","for_breaking","for_keeping","against"]))) (bG (g6 1 (kF (l:=["world","rank","for_breaking","for_keeping","against"]))) eO)))) (fun _ _ _ _ _ _=>cM) (fun _ _ _ _ _ _=>(aD cQ (af 1) (fD (aF aU (dn T.q6 (oY T) hr aM (aa (g5 4) (aa (af 0) aj))) ak (aH _)) (g5 2) (g5 3)))))
   (aq (aA (bj (aa (cy aJ (af 0) ak) (aa (dj dC T.zn Bt.tuple (aa (af 7) aj)) aj)))))))))),?_⟩
 refine⟨_,Z,_,Z,a,p,r,rs,v,ns,tr,Z,hm,hf,fun hall=>?_,k2⟩;have k1:=k1 hall;cases hb:aN (sel rs (aC ns tr))with
 |none=>rw[hb]at k1;exact k1
 | some x =>
  rw[hb]at k1;cases hk:aN (sel rs (aP ns tr))with
  |none=>rw[hk]at k1;exact k1
  | some y =>
   rw[hk]at k1;intro b H1 s1 Ee;have hm1:=hm.mono s1;obtain⟨hp,h8,ic,ht,hsz,hd,hL,ri⟩:=id hf;refine⟨_,Z,_,_,Z,_,Z,b,_,0,.int x,Z,Z,SqT.of Ee,Z,_,_,Z,Z,?_⟩;refine⟨_,Z,_,Z,_,_,Z,_,Z,b,_,1,.int y,Z,Z,SqT.of Ee,Z,_,_,Z,Z,?_⟩;refine⟨_,Z,a,_,0,.ref p,Z,Z,SqT.of hm1.1,Z,_,Z,p,v,ns,tr,Z,⟨s1 _ _ hp,h8,ic,ht.mono s1.b9,hsz,hd,hL,ri⟩,fun _ H2 s2=>?_,fun z=>absurd hall z⟩;have nc:=hm1.mono s2;have j_:=s1.trans s2;refine⟨_,Z,a,_,1,.ref r,Z,Z,SqT.of nc.1,Z,r,Z,⟨_,SqT.of nc.2.1⟩,?_⟩;refine gO (K:=K) (a:=r) (xs:=rs.map V.int) (fun i ys H'=>aT H2 H'/\ys=(gW rs (aC ns tr) (cT lean-x) (cT (-lean)-y) i).map V.int) ⟨aT.refl _,rfl⟩ (lk (by rw[dS];have:=hm.2.2;exact oo)) (fun i ys H' ⟨_,e⟩=>by rw[e,dS,rW];exact qnr _) (fun i ys H' ⟨s3,_⟩=>SqT.of (s3 _ _ nc.2.1)) ?_ ?_
   ·rintro i z ys H3 hi ⟨s3,rfl⟩ e he
    rw[kT]at hi
    obtain⟨u,hx,rfl⟩:∃ u,rs[i]?=some u/\z=V.int u:=by
     cases q:rs[i]? with
     |none=>rw[q]at hi;cases hi
     |some u=>rw[q]at hi;exact⟨u,Z,(iE hi).symm⟩
    have s4:=s3.trans (aB (o:=.tup [.int i,.int u]) he);refine⟨e,_,Z,SqT.of au,Z,_,_,Z,_,_,Z,Z,⟨Z,Z,Z,trivial⟩,?_⟩;refine⟨_,Z,_,Z,_,Z,aC ns tr,i,Z,Z,_,Z,?_⟩;rw[ym];unfold dm;have ex:rs.getD i 0=u:=by rw[List.getD,hx];rfl
    cases hbt:(aC ns tr).testBit i with
    | true =>
     refine bQ ?_;refine⟨_,Z,_,_,Z,Z,s4,?_⟩;rw[show(if true=true then cT lean-x else cT (-lean)-y)=cT lean-x from b6 rfl,ax,ex]
     rfl
    | false =>
     refine bu ?_;refine⟨_,Z,_,_,Z,Z,s4,?_⟩;rw[show(if false=true then cT lean-x else cT (-lean)-y)=cT (-lean)-y from bq odz,ax,ex]
     rfl
   rintro ys H3 ⟨s3,rfl⟩ l hl;rw[dS];have s4:=s3.trans (aB (o:=.lst ((gW rs (aC ns tr) (cT lean-x) (cT (-lean)-y) rs.length).map V.int)) hl);refine⟨_,Z,a,_,0,.ref p,Z,Z,SqT.of (s4 _ _ nc.1),Z,_,Z,l,_,Z,.inl ⟨SqL.of au,fun q hq=>?_⟩⟩;have s5:=aB (o:=.tup ((gW rs (aC ns tr) (cT lean-x) (cT (-lean)-y) rs.length).map V.int)) hq;refine⟨lk obz,fun c hc=>?_⟩;have s6:=aB (o:=.tup [.ref p,.ref q]) hc;exact k1 c q _ (((j_.trans s4).trans s5).trans s6) ⟨au,s6 _ _ au,by rw[jE];exact hm.2.2⟩
inductive GH(t:ku)(vs:List V)(H:Hp)(Q:VK)(E:XK):Prop
 |mk(a p r:Addr)(rs:List Int)(v:V)(ns:List Str)(tr:Tr)(_:vs=[.ref a,v])(_:cb H a p r rs)(_:eC ns rs)(_:Fits H p v ns tr)(_:((∀ x∈tr.names,x∈ns)->match aN (sel rs (aC ns tr))with|none=>∀ H',aT H H'->E (.ref t.zh) none H'|some _=>∀(b q:Addr)(H':Hp),aT H H'->cb H' b p q (dh ns tr rs)->Q (.ref b) H'))(_:((¬ ∀ x∈tr.names,x∈ns)->∀ H',aT H H'->E (.ref t.zf) none H'))
theorem yW(T:Txt P w K mg t):FM P w base T.q29 121 (GH t):=by
 refine T.q29.F.eK (N:=["mind","tree"]) eo ?_;rintro nd _ _ _ _ H vs Q E hr ⟨a,p,r,rs,v,ns,tr,rfl,hm,hM,hf,k1,k2⟩
 refine⟨_,(ao (aR (bV (dn T.q20 (p7 T) hr bx (aa (af 0) (aa (af 1) aj))))
    (aq (aA (dn T.q28 (tZ T) hr bx (aa (af 0) (aa (af 1) (aa ak aj))))))
    aO)
   (aq (aA (af 0)))),?_⟩
 refine⟨_,Z,_,Z,a,p,r,rs,v,ns,tr,Z,hm,hf,fun hall H1 s1=>?_,k2⟩;have k1:=k1 hall;obtain⟨hp,h8,ic,ht,hsz,hd,hL,ri⟩:=id hf;have hm1:=hm.mono s1;have hf1:Fits H1 p v ns tr:=⟨s1 _ _ hp,h8,ic,ht.mono s1.b9,hsz,hd,hL,ri⟩
 have eg:dh ns tr rs=match aN (sel rs (aC ns tr)),aN (sel rs (aP ns tr))with|some x,some y=>if 0<x then fc rs (aC ns tr) x y 0 else rs|_,_=>rs:=rfl
 cases hb:aN (sel rs (aC ns tr))with
 | none =>
  rw[hb]at k1;refine⟨_,Z,bQ ?_⟩;refine⟨_,Z,_,Z,a,p,r,rs,v,ns,tr,0,Z,hm1,hf1,fun _=>?_,fun z=>absurd hall z⟩;rw[hb];exact fun H2 s2=>k1 H2 (s1.trans s2)
 | some x =>
  rw[hb]at k1 eg;refine⟨_,Z,aQ (fun c=>?_) (fun c=>?_)⟩
  ·have c:0<x:=en c
   refine⟨_,Z,_,Z,a,p,r,rs,v,ns,tr,0,Z,hm1,hf1,fun _=>?_,fun z=>absurd hall z⟩;rw[hb];cases hk:aN (sel rs (aP ns tr))with
   | none =>
    rcases oW hM.len tr hM.zero with h|h
    ·have:=(bf hb).2 _ h
     exact oo
    rw[gf hk]at h;cases h
   | some y =>
    rw[hk]at eg;have eg:dh ns tr rs=if 0<x then fc rs (aC ns tr) x y 0 else rs:=eg;rw[b6 c]at eg;rw[eg]at k1;exact fun b q H2 s2 nc=>k1 b q H2 (s1.trans s2) nc
  have c:¬0<x:=fun z=>c (cS z)
  have eg:dh ns tr rs=rs:=by
   rw[eg];cases hk:aN (sel rs (aP ns tr))with
   |none=>rfl
   |some y=>exact bq c
  rw[eg]at k1;exact⟨_,Z,k1 a r H1 s1 hm1⟩
inductive F5(t:ku)(vs:List V)(H:Hp)(Q:VK)(E:XK):Prop
 |mk(a p r:Addr)(rs:List Int)(v:V)(ns:List Str)(tr:Tr)(firm:Int)(_:vs=[.ref a,v,.int firm])(_:cb H a p r rs)(_:Fits H p v ns tr)(_:((∀ x∈tr.names,x∈ns)->match aN (sel rs (aC ns tr)),aN (sel rs (aP ns tr))with|some _,none=>∀ H',aT H H'->E (.ref t.zi) none H'|_,_=>∀(b q:Addr)(H':Hp),aT H H'->cb H' b p q (g8 ns tr rs firm)->Q (.ref b) H'))(_:((¬ ∀ x∈tr.names,x∈ns)->∀ H',aT H H'->E (.ref t.zf) none H'))
theorem Kw(T:Txt P w K mg t):FM P w base T.q30 121 (F5 t):=by
 refine T.q30.F.eK (N:=["mind","tree","firm"]) eo ?_;rintro nd _ _ _ _ _ _ _ _ hr ⟨a,p,r,rs,v,ns,tr,firm,rfl,hm,hf,k1,k2⟩
 refine⟨_,(ao (aR (aF gU (dn T.q19 (tY T) hr bx (aa (af 0) (aa (af 1) aj))) bK (aH _))
    (aq (aA (af 0)))
    aO)
   (aq (aA (dn T.q28 (tZ T) hr bx (aa (af 0) (aa (af 1) (aa (af 2) aj))))))),?_⟩
 refine⟨_,Z,_,Z,a,p,r,rs,v,ns,tr,Z,hm,hf,fun hall H1 s1=>?_,k2⟩;have k1:=k1 hall;obtain⟨hp,h8,ic,ht,hsz,hd,hL,ri⟩:=id hf;have hm1:=hm.mono s1;have hf1:Fits H1 p v ns tr:=⟨s1 _ _ hp,h8,ic,ht.mono s1.b9,hsz,hd,hL,ri⟩
 unfold g8 at k1;refine⟨Z,_,Z,?_⟩;cases hb:aN (sel rs (aC ns tr))with
 | none =>
  rw[hb]at k1;rw[show decide (lW none=V.non)=true from cS rfl];exact bQ ⟨_,rfl,k1 a r H1 s1 hm1⟩
 | some x =>
  rw[hb]at k1;rw[show decide (lW (some x)=V.non)=false from gp (by intro z;cases z)];refine bu ?_;refine⟨_,Z,_,Z,_,Z,a,p,r,rs,v,ns,tr,firm,Z,hm1,hf1,fun _=>?_,fun z=>absurd hall z⟩;rw[hb];cases hk:aN (sel rs (aP ns tr))with
  | none =>
   rw[hk]at k1;exact fun H2 s2=>k1 H2 (s1.trans s2)
  | some y =>
   rw[hk]at k1;exact fun b q H2 s2 nc=>k1 b q H2 (s1.trans s2) nc
theorem O9:¬(("standing":Str)="taken_back"):=by decide +kernel
def lf(sl bl:Addr):List (Str×V):=bc "taken_back" (.ref bl) (bc "standing" (.ref sl) [])
theorem Jw(sl bl:Addr):(lf sl bl).lookup ("standing":Str)=some (.ref sl):=by
 unfold lf;rw[bC,bq O9,bC,b6 rfl]
theorem iU(sl bl:Addr)  (h1:¬m="taken_back") (h2:¬m="standing"):(lf sl bl).lookup m=none:=by
 unfold lf;rw[bC,bq h1,bC,bq h2]
 rfl
theorem uP(f:Str)(u v:V):∀ l:List (Str×V),bc f u (bc f v l)=bc f u l
 |[]=>by simp[bc]
 | (g,x):: r=>by
  by_cases h:g=f
  ·simp[bc,h]
  simp[bc,h,uP f u v r]
theorem Nk(sl bl hX:Addr):bc "taken_back" (.ref hX) (lf sl bl)=lf sl hX:=uP _ _ _ _
structure fR(C:Addr)(H:Hp)(p dx sl bl:Addr)(mv bv:List V):Prop where
 ob:H p=some (.ins C dx (lf sl bl))
 ne:sl≠bl
 st:H sl=some (.lst mv)
 tb:H bl=some (.lst bv)
inductive C4(C:Addr)(vs:List V)(H:Hp)(Q:VK)(E:XK):Prop
 |mk(p dx sl bl:Addr)(mv bv:List V)(y:V)(_:vs=[.ref p])(_:fR C H p dx sl bl (mv++[y]) bv)(_:Q y H)
inductive qV(C:Addr)(vs:List V)(H:Hp)(Q:VK)(E:XK):Prop
 |mk(p dx sl bl:Addr)(mv bv:List V)(y:V)(_:vs=[.ref p,y])(_:fR C H p dx sl bl mv bv)(_:mv.length<=500)(_:∀(hX:Addr)(H':Hp),H hX=none->fR C H' p dx sl hX (mv++[y]) []->(∀ b o,H b=some o->b≠p->b≠sl->H' b=some o)->Q .non H')
theorem ni(T:Txt P w K mg t):Fm P w mg base T.q41 1 (C4 t.zc):=by
 refine T.q41.F.eK (N:=["self"]) eo ?_;rintro nd _ _ _ _ _ _ _ _ hr ⟨p,dx,sl,bl,mv,bv,y,rfl,U,k⟩;refine⟨_,(aq (aA (cy bB (bM (af 0) rfl) (mR j9 ak)))),?_⟩;exact⟨_,Z,p,t.zc,dx,_,_,Z,U.ob,T.zg,T.zP,Jw _ _,1,Z,sl,_,_,y,Z,Z,SqL.of U.st,qI mv y,k⟩
theorem ph(T:Txt P w K mg t):Fm P w mg base T.q34 1 (qV t.zc):=by
 refine T.q34.F.eK (N:=["self","behind"]) eo ?_;rintro nd _ _ _ _ H _ _ _ hr ⟨p,dx,sl,bl,mv,bv,y,rfl,U,h500,k⟩
 refine⟨_,(ao (bA (bY PySem.F.plainAttrs_list PySem.F.slot_list_append PySem.F.type_list_append cL (bM (af 0) rfl) (aa (af 1) aj)))
   (aq (iQ (af 0) (bz aj) rfl))),?_⟩
 have sq:p≠sl:=bF U.ob U.st;refine⟨_,Z,p,t.zc,dx,_,_,Z,U.ob,T.zg,T.zP,Jw _ _,.inl ⟨Z,_,SqL.of U.st⟩,_,Z,sl,_,_,Z,Z,U.st,dR oo,?_⟩;refine⟨lk obz,fun hX xa=>?_⟩;have SF:hX≠sl:=fun z=>by subst z;rw[au]at xa;cases xa
 have D':H hX=none:=by rw[aG SF]at xa;exact xa
 have KG:p≠hX:=aK U.ob D';refine⟨_,Z,p,t.zc,dx,_,Z,by rw[aG KG,aG sq];exact U.ob,T.zg,T.zZ,(by show 2<1000;decide),?_⟩;rw[Nk];refine k hX _ D' ⟨au,ba SF,?_,?_⟩ fun b o e h1 h2=>?_
 ·rw[aG (ba sq),aG (ba SF),au]
 ·rw[aG (ba KG),au]
 rw[aG h1,aG (aK e D'),aG h2];exact e
theorem fR.mono(s:aT H H'){p:Addr}(U:fR C H p dx sl bl mv bv):fR C H' p dx sl bl mv bv:=⟨s _ _ U.ob,U.ne,s _ _ U.st,s _ _ U.tb⟩
def nj(p sl:Addr)(H H':Hp):Prop:=∀ b o,H b=some o->b≠p->b≠sl->H' b=some o
inductive C3(t:ku)(vs:List V)(H:Hp)(Q:VK)(E:XK):Prop
 |mk(p dx sl bl:Addr)(mv bv:List V)(a np r:Addr)(rs:List Int)(v:V)(ns:List Str)(tr:Tr)(firm:Int)(_:vs=[.ref p,v,.int firm])(_:fR t.zc H p dx sl bl (mv++[.ref a]) bv)(_:mv.length<=400)(_:cb H a np r rs)(_:Fits H np v ns tr)(_:((∀ x∈tr.names,x∈ns)->match aN (sel rs (aC ns tr)),aN (sel rs (aP ns tr))with|some _,none=>∀ H',aT H H'->E (.ref t.zi) none H'|_,_=>∀(b q hX:Addr)(H':Hp),H hX=none->nj p sl H H'->fR t.zc H' p dx sl hX (mv++[.ref a]++[.ref b]) []->cb H' b np q (g8 ns tr rs firm)->Q .non H'))(_:((¬ ∀ x∈tr.names,x∈ns)->∀ H',aT H H'->E (.ref t.zf) none H'))
inductive C6(t:ku)(vs:List V)(H:Hp)(Q:VK)(E:XK):Prop
 |mk(p dx sl bl:Addr)(mv bv:List V)(a np r:Addr)(rs:List Int)(v:V)(ns:List Str)(tr:Tr)(_:vs=[.ref p,v])(_:fR t.zc H p dx sl bl (mv++[.ref a]) bv)(_:mv.length<=400)(_:cb H a np r rs)(_:eC ns rs)(_:Fits H np v ns tr)(_:((∀ x∈tr.names,x∈ns)->match aN (sel rs (aC ns tr))with|none=>∀ H',aT H H'->E (.ref t.zh) none H'|some _=>∀(b q hX:Addr)(H':Hp),H hX=none->nj p sl H H'->fR t.zc H' p dx sl hX (mv++[.ref a]++[.ref b]) []->cb H' b np q (dh ns tr rs)->Q .non H'))(_:((¬ ∀ x∈tr.names,x∈ns)->∀ H',aT H H'->E (.ref t.zf) none H'))
theorem pq{p:Addr}(U:fR C H p dx sl bl mv bv)(k:nj p sl H H'){q:Addr}(h:cb H b np q rs):cb H' b np q rs :=
 ⟨k _ _ h.1 (bF h.1 U.ob) (bF h.1 U.st),k _ _ h.2.1 (bF h.2.1 U.ob) (bF h.2.1 U.st),h.2.2⟩
theorem Ho(T:Txt P w K mg t):Fm P w mg base T.q35 122 (C3 t):=by
 refine T.q35.F.eK (N:=["self","tree","firm"]) eo ?_;rintro nd _ _ _ _ H _ Q _ hr ⟨p,dx,sl,bl,mv,bv,a,np,r,rs,v,ns,tr,firm,rfl,U,nk,hm,fit,k,kn⟩;refine⟨_,(aq (bA (EZ (af 0) T.zg T.q34 (ph T) hr aM (aa (dn T.q30 (Kw T) hr bx (aa (jL (af 0) T.zg T.q41 (ni T) hr aM) (aa (af 1) (aa (af 2) aj)))) aj)))),?_⟩
 have go:∀(b q:Addr)(H1:Hp),aT H H1->cb H1 b np q (g8 ns tr rs firm)->(∀(b q hX:Addr)(H':Hp),H hX=none->nj p sl H H'->fR t.zc H' p dx sl hX (mv++[.ref a]++[.ref b]) []->cb H' b np q (g8 ns tr rs firm)->Q .non H') ->
   qV t.zc [.ref p,.ref b] H1 (fun _ H'=>Q .non H') E0:=fun b q H1 s1 hm1 k=>⟨p,dx,sl,bl,mv++[.ref a],bv,.ref b,rfl,U.mono s1,by rw[aS];show mv.length+1<=500;exact oo,fun hX H2 D' U2 kp=>k b q hX H2 (s1.free D') (fun c o e h1 h2=>kp c o (s1 _ _ e) h1 h2) U2 (pq (U.mono s1) kp hm1)⟩
 refine⟨_,Z,p,dx,_,Z,U.ob,iU _ _ dk dk,_,Z,p,dx,_,Z,U.ob,iU _ _ dk dk,p,dx,sl,bl,mv,bv,.ref a,Z,U,_,Z,_,Z,a,np,r,rs,v,ns,tr,firm,Z,hm,fit,fun hall=>?_,kn⟩;have k:=k hall;cases hb:aN (sel rs (aC ns tr))with
 | none =>
  rw[hb]at k;exact fun b q H1 s1 hm1=>go b q H1 s1 hm1 k
 | some x =>
  cases hk:aN (sel rs (aP ns tr))with
  | none =>
   rw[hb,hk]at k;exact k
  | some y =>
   rw[hb,hk]at k;exact fun b q H1 s1 hm1=>go b q H1 s1 hm1 k
theorem Hq(T:Txt P w K mg t):Fm P w mg base T.q36 122 (C6 t):=by
 refine T.q36.F.eK (N:=["self","tree"]) eo ?_;rintro nd _ _ _ _ H vs Q E hr ⟨p,dx,sl,bl,mv,bv,a,np,r,rs,v,ns,tr,rfl,U,nk,hm,hM,fit,k,kn⟩;refine⟨_,(aq (bA (EZ (af 0) T.zg T.q34 (ph T) hr aM (aa (dn T.q29 (yW T) hr bx (aa (jL (af 0) T.zg T.q41 (ni T) hr aM) (aa (af 1) aj))) aj)))),?_⟩;refine⟨_,Z,p,dx,_,Z,U.ob,iU _ _ dk dk,_,Z,p,dx,_,Z,U.ob,iU _ _ dk dk,p,dx,sl,bl,mv,bv,.ref a,Z,U,_,Z,a,np,r,rs,v,ns,tr,Z,hm,hM,fit,fun hall=>?_,kn⟩;have k:=k hall;cases hb:aN (sel rs (aC ns tr))with
 | none =>
  rw[hb]at k;exact k
 | some x =>
  rw[hb]at k;exact fun b q H1 s1 hm1=>⟨p,dx,sl,bl,mv++[.ref a],bv,.ref b,rfl,U.mono s1,by rw[aS];show mv.length+1<=500;exact oo,fun hX H2 D' U2 kp=>k b q hX H2 (s1.free D') (fun c o e h1 h2=>kp c o (s1 _ _ e) h1 h2) U2 (pq (U.mono s1) kp hm1)⟩
inductive GN(vs:List V)(H:Hp)(Q:VK)(E:XK):Prop
 |mk(p:Addr)(ns:List Str)(_:vs=[.ref p])(_:H p=some (.tup (ns.map V.str)))(_:1<=ns.length)(_:ns.length<=8)(_:∀(a r:Addr)(H':Hp),aT H H'->H' r=some (.tup ((List.replicate (2^ns.length) (0:Int)).map V.int))->H' a=some (.tup [.ref p,.ref r])->Q (.ref a) H')
inductive C5(C:Addr)(vs:List V)(H:Hp)(Q:VK)(E:XK):Prop
 |mk(p dx np:Addr)(ns:List Str)(_:vs=[.ref p,.ref np])(_:H p=some (.ins C dx []))(_:H np=some (.tup (ns.map V.str)))(_:1<=ns.length)(_:ns.length<=8)(_:∀(sl bl m r:Addr)(H':Hp),H sl=none->H bl=none->fR C H' p dx sl bl [.ref m] []->cb H' m np r (List.replicate (2^ns.length) (0:Int))->(∀ b o,H b=some o->b≠p->H' b=some o)->Q .non H')
theorem Ky(T:Txt P w K mg t):FM P w base T.q17 1 GN:=by
 refine T.q17.F.eK (N:=["names"]) eo ?_;rintro nd _ _ _ _ _ _ _ _ hr ⟨p,ns,rfl,hp,h1,h8,k⟩;refine⟨_,(aq (aA (bj (aa (af 0) (aa (aD Kh (bj (aa ak aj)) (aD gm ak (aZ aW T.zd Bt.len (aa (af 0) aj)))) aj))))),?_⟩;have mn:2^ns.length<=256:=cq (n:=2) odz h8;have h2:2<=2^ns.length:=cq (n:=2) (i:=1) odz h1;have e1:(1:Int)*2^(((ns.map V.str).length:Nat):Int).toNat=((2^ns.length:Nat):Int):=by rw[dS,bo];simp
 have er:(List.replicate (2^ns.length) [V.int 0]).flatten=(List.replicate (2^ns.length) (0:Int)).map V.int:=by simp
 refine⟨_,Z,lk obz,fun q hq=>?_⟩;have u1:=aB (o:=.tup [.int 0]) hq;refine⟨_,Z,p,_,Z,.inr (SqT.of (u1 _ _ hp)),_,_,Z,Z,⟨by rw[dS];exact oo,by rw[dS];exact oo,odz⟩,?_⟩
 try dsimp -proj -iota only
 rw[e1];refine⟨q,_,[.int 0],Z,Z,SqT.of au,eA _ _,oo,oo,?_,fun q2 hq2=>?_⟩
 ·rw[bo]
  exact lk (by simp;exact oo)
 rw[bo,er];have u2:=aB (o:=.tup ((List.replicate (2^ns.length) (0:Int)).map V.int)) hq2;refine⟨lk obz,fun a ha=>?_⟩;have u3:=aB (o:=.tup [.ref p,.ref q2]) ha;exact k a q2 _ ((u1.trans u2).trans u3) (u3 _ _ au) au
theorem Hr(T:Txt P w K mg t):Fm P w mg base T.q33 2 (C5 t.zc):=by
 refine T.q33.F.eK (N:=["self","names"]) eo ?_;rintro nd _ _ _ _ H vs Q E hr ⟨p,dx,np,ns,rfl,hp,hn,h1,h8,k⟩
 refine⟨_,(ao (iQ (af 0) (bz (aa (dn T.q17 (Ky T) hr aM (aa (af 1) aj)) aj)) rfl)
   (aq (iQ (af 0) (bz aj) rfl))),?_⟩
 refine⟨_,Z,np,ns,Z,hn,h1,h8,fun m r H1 s1 wq hm1=>⟨lk obz,fun sl hsl=>?_⟩⟩;have u1:=aB (o:=.lst [.ref m]) hsl;have hp1:=s1 _ _ hp;have sq:p≠sl:=aK hp1 hsl;refine⟨_,Z,p,t.zc,dx,_,Z,u1 _ _ hp1,T.zg,T.zP,(by show 0<1000;decide),?_⟩;refine⟨lk obz,fun bl xa=>?_⟩;have KG:p≠bl:=aK au xa;have IT:(upd H1 sl (.lst [.ref m])) bl=none:=by rw[aG (ba KG)]at xa;exact xa
 have Ry:sl≠bl:=aK au IT;have NI:H1 bl=none:=by rw[aG (ba Ry)]at IT;exact IT
 refine⟨_,Z,p,t.zc,dx,_,Z,by rw[aG KG];exact au,T.zg,T.zZ,(by show 1<1000;decide),?_⟩
 have keep:∀ b o,H1 b=some o->b≠p->(upd (upd (upd (upd H1 sl (.lst [.ref m])) p (.ins t.zc dx (bc "standing" (.ref sl) []))) bl (.lst [])) p (.ins t.zc dx (bc "taken_back" (.ref bl) (bc "standing" (.ref sl) [])))) b=some o:=fun b o e hb=>by
  rw[aG hb,aG (aK e NI),aG hb,aG (aK e hsl)];exact e
 refine k sl bl m r _ (s1.free hsl) (s1.free NI) ⟨au,Ry,?_,?_⟩ ⟨keep _ _ hm1 (bF hm1 hp1),keep _ _ wq (bF wq hp1),?_⟩ fun b o e hb=>keep b o (s1 _ _ e) hb
 ·rw[aG (ba sq),aG Ry,aG (ba sq),au]
 ·rw[aG (ba KG),au]
 rw[d_];exact cq (n:=2) odz h8
inductive CY(vs:List V)(H:Hp)(Q:VK)(E:XK):Prop
 |mk(c k:Int)(_:vs=[.int c,.int k])(_:0<=k)(_:k<2^20)(_:∀ m:Int,0<=m->Q (.int m) H)
theorem Hs(T:Txt P w K mg t):FM P w base T.q93 1 CY:=by
 refine T.q93.F.eK (N:=["_law_cell","_law_k"]) eo ?_;rintro nd _ _ _ _ H vs Q E hr ⟨c,k,rfl,h0,h1,q⟩;refine⟨_,(aq (aA (aD bZ (aD gD (aD gD (aD cQ (aD bZ (af 0) ak) ak) (aD cQ (aD gD (af 1) (af 1)) ak)) ak) ak))),?_⟩;have m1:AX k k:=.inl ⟨oo,oo⟩;have b0:=Ap c (show(2305843009213693951:Int)≠0 by decide);have b1:=BG c (show(0:Int)<2305843009213693951 by decide);have m2:AX (c%2305843009213693951+1) (k*k+48271):=.inl ⟨oo,oo⟩;refine⟨_,Z,_,_,Z,Z,(by show(0:Int)<2305843009213693951;decide),_,_,Z,Z,_,Z,_,Z,_,_,Z,Z,m1,_,_,Z,Z,_,_,Z,Z,m2,_,_,Z,Z,.inr ⟨odz,odz⟩,_,_,Z,Z,(by show(0:Int)<2147483399;decide),q _ (Ap _ odz)⟩
inductive Ri(n:Nat)(vs:List V)(H:Hp)(Q:VK)(E:XK):Prop
 |mk(p:Addr)(ns:List Str)(c d:Int)(_:vs=[.ref p,.int c,.int d])(_:H p=some (.tup (ns.map V.str)))(_:1<=ns.length)(_:ns.length<=8)(_:0<=d)(_:d<n)(_:∀(v:V)(tr:Tr)(H':Hp),aT H H'->c8 H' v tr->tr.depth<=n->tr.size+1<=2^n->(∀ x∈tr.names,x∈ns)->Q v H')
theorem G0:b_ ["_law_names","_law_cell","_law_deep","_law_sort","_law_rest","_law_one","_law_verb"] ["_law_names","_law_cell","_law_deep"] (aV T9):=eo
theorem vJ(T:Txt P w K mg t):∀ n:Nat,FO P w K mg base (n+1) t.YC t.Yl ["_law_names","_law_cell","_law_deep"] (Ri n)
 | 0=>by
  refine T.q95.F.rf G0 (fun vs H Q E h=>by obtain⟨p,ns,c,d,rfl,_⟩:=h;rfl) (fun g9 A outer s H vs Q E hr h=>?_);obtain⟨p,ns,c,d,rfl,_,_,_,h0,h1,_⟩:=h;exact oo
 | n + 1 => by
  refine T.q95.F.rf G0 (fun vs H Q E h=>by obtain⟨p,ns,c,d,rfl,_⟩:=h;rfl) (fun g9 A outer s H vs Q E hr h=>?_);obtain⟨p,ns,c,d,rfl,hp,h1,h8,hd0,hdn,k⟩:=h;have nd:=G0.nd;have hpow:1<=2^n:=ip;have hpow2:2^(n+1)=2^n+2^n:=by rw[fS];exact oo
  refine⟨_,(ao (eT 3 nd (aD bZ (af 1) ak))
   (ao (eT 4 nd (aD gn (af 1) ak))
   (ao (aR (PW.pt (eX (aF aU (af 2) ak (aH _)) (gk (aF mV (af 3) ak (aH _)))))
    (ao (aR (aF aU (aD bZ (af 4) ak) ak (aH _))
     (aq (aA (bj (aa az aj))))
     aO)
    (ao (aR (aF aU (aD bZ (af 4) ak) ak (aH _))
     (aq (aA (bj (aa az aj))))
     aO)
    (aq (aA (bj (aa az (aa (cy aJ (af 0) (aD bZ (aD gn (af 4) ak) (aZ aW T.zd Bt.len (aa (af 0) aj)))) aj)))))))
    aO)
   (ao (eT 5 nd (dn T.q95 (vJ T n) hr aM (aa (af 0) (aa (aD bZ (aD gD (af 4) ak) ak) (aa (aD cW (af 2) ak) aj)))))
   (ao (aR (aF mV (af 3) ak (aH _))
    (aq (aA (bj (aa az (aa (af 5) aj)))))
    aO)
   (ao (eT 6 nd (cy bB (bz (aa az (aa az (aa az (aa az (aa az (aa az aj))))))) (aD cW (af 3) ak)))
   (aq (aA (bj (aa (af 6) (aa (af 5) (aa (dn T.q95 (vJ T n) hr aM (aa (af 0) (aa (aD bZ (aD gD (af 4) ak) ak) (aa (aD cW (af 2) ak) aj)))) aj)))))))))))),?_⟩
  refine⟨_,Z,_,_,Z,Z,(by show(0:Int)<11;decide),?_⟩;refine⟨_,Z,_,_,Z,Z,⟨odz,odz⟩,?_⟩
  try dsimp -proj -iota only
  have _8:=Ap c (show(11:Int)≠0 by decide);have _7:=BG c (show(0:Int)<11 by decide);generalize c%11=way at _8 _7 ⊢;generalize c/11=rest;refine⟨_,Z,Z,_,Z,aQ (fun c1=>bQ ?A1) (fun c1=>⟨_,Z,_,_,Z,Z,_,Z,aQ (fun c2=>?A2) (fun c2=>?B)⟩)⟩
  case A1|A2 =>
   refine⟨_,Z,_,_,Z,Z,(by show(0:Int)<12;decide),Z,_,Z,aQ (fun _=>?_) (fun _=>⟨_,Z,_,_,Z,Z,(by show(0:Int)<12;decide),Z,_,Z,aQ (fun _=>?_) (fun _=>?_)⟩)⟩
   ·refine⟨lk obz,fun p1 hp1=>?_⟩
    exact k (.ref p1) .yes _ (aB hp1) (.yes au) (by show 1<=n+1;exact oo) (by show 1+1<=2^(n+1);exact oo) fun x hx=>by cases hx
   ·refine⟨lk obz,fun p1 hp1=>?_⟩
    exact k (.ref p1) .no _ (aB hp1) (.no au) (by show 1<=n+1;exact oo) (by show 1+1<=2^(n+1);exact oo) fun x hx=>by cases hx
   have el:((ns.map V.str).length:Int)=ns.length:=by rw[dS]
   have E':=Ap (rest/12) (by omega:((ns.length:Int))≠0);have xC:=BG (rest/12) (by omega:0<(ns.length:Int));have fE:(rest/12%(ns.length:Int)).toNat<ns.length:=oo
   refine⟨_,Z,_,Z,_,_,Z,Z,⟨odz,odz⟩,_,Z,p,_,Z,.inr (SqT.of hp),_,_,Z,Z,(by rw[el];exact oo),p,_,_,V.str ns[(rest/12%(ns.length:Int)).toNat],Z,Z,SqT.of hp,qL (by rw[el];exact E') ?_,lk obz,fun q hq=>?_⟩
   ·rw[el,kT,List.getElem?_eq_getElem fE]
    rfl
   exact k (.ref q) (.nm ns[(rest/12%(ns.length:Int)).toNat]) _ (aB hq) (.nm au) (by show 1<=n+1;exact oo) (by show 1+1<=2^(n+1);exact oo) fun x hx=>by
    have hx:x∈[ns[(rest/12%(ns.length:Int)).toNat]]:=hx;rw[ar.mp hx];exact gN fE
  case B =>
   have NG:1<=d:=by
    have:¬d=0:=fun z=>c1 (cS (bP V.int z))
    exact oo
   have RN:3<=way:=by
    have:¬way<3:=fun z=>c2 (cS z)
    exact oo
   refine⟨_,Z,_,Z,_,_,Z,Z,.inr ⟨odz,odz⟩,_,_,Z,Z,(by show(0:Int)<2147483647;decide),_,Z,_,_,Z,Z,p,ns,_,d-1,Z,hp,h1,h8,oo,oo,fun v1 t1 H1 s1 P7 hdp1 hsz1 xD=>?_⟩;refine⟨_,Z,_,_,Z,Z,_,Z,aQ (fun _=>?_) (fun c3=>?_)⟩
   ·refine⟨_,Z,lk obz,fun q hq=>?_⟩
    exact k (.ref q) (.not t1) _ (s1.trans (aB hq)) (.not au (P7.mono (aB hq).b9)) (by show t1.depth+1<=n+1;exact oo) (by show t1.size+1+1<=2^(n+1);exact oo) xD
   have hw5:5<=way:=by
    have:¬way<5:=fun z=>c3 (cS z)
    exact oo
   refine⟨lk obz,fun q1 xC=>?_⟩;have s3:=aB (o:=.lst [.str "and",.str "or",.str "then",.str "same",.str "and",.str "or"]) xC
   obtain⟨o,ho⟩:∃ o:Op,qo [V.str "and",V.str "or",V.str "then",V.str "same",V.str "and",V.str "or"] (way-5)=some (.str o.str):=by
    have hw:way-5=0\/way-5=1\/way-5=2\/way-5=3\/way-5=4\/way-5=5:=oo
    rcases hw with hw|hw|hw|hw|hw|hw<;>rw[hw]
    ·exact⟨.and,Z⟩
    ·exact⟨.or,Z⟩
    ·exact⟨.thn,Z⟩
    ·exact⟨.same,Z⟩
    ·exact⟨.and,Z⟩
    exact⟨.or,Z⟩
   refine⟨_,Z,_,_,Z,Z,q1,_,_,.str o.str,Z,Z,SqL.of au,ho,?_⟩;have iP:=s1.trans s3;refine⟨_,Z,_,Z,_,Z,_,Z,_,_,Z,Z,.inr ⟨odz,odz⟩,_,_,Z,Z,(by show(0:Int)<2147483629;decide),_,Z,_,_,Z,Z,p,ns,_,d-1,Z,iP _ _ hp,h1,h8,oo,oo,fun v2 t2 H2 s2 MB hdp2 hsz2 rp=>⟨lk obz,fun q2 hq2=>?_⟩⟩;have s4:=aB (o:=.tup [.str o.str,v1,v2]) hq2;refine k (.ref q2) (.bin o t1 t2) _ ((iP.trans s2).trans s4) (.bin (o:=o) au (P7.mono ((s3.trans s2).trans s4).b9) (MB.mono s4.b9)) (by show max t1.depth t2.depth+1<=n+1;exact oo) (by show t1.size+t2.size+1+1<=2^(n+1);exact oo) fun x hx=>?_
   rcases aw.mp hx with hx|hx
   ·exact xD x hx
   exact rp x hx
inductive y9(vs:List V)(H:Hp)(Q:VK)(E:XK):Prop
 |mk(n k:Nat)(_:vs=[.int n,.int k])(_:k<n)(_:n<=8)(_:Q (.int (dH n k:Nat)) H)
theorem BI(k:Nat):(1:Int)*2^((k:Nat):Int).toNat=((2^k:Nat):Int):=by rw[bo];simp
theorem vK{k:Nat}(h:k<=8):2^k<=256:=cq (n:=2) odz h
theorem BH{k:Nat}(h:k<=8):(0:Int)<=((2^k:Nat):Int)/\((2^k:Nat):Int)<=1000:=⟨ee _,Int.ofNat_le.mpr (fA (vK h) odz)⟩
theorem mH{i j:Int}(h0:0<=j)(h1:j<=1000)(hi:i.natAbs<2^256*2^44):tO i j:=⟨h0,oo,a_ hi (by rw[<- Nat.pow_add];exact cq odz odz)⟩
theorem pA:(1:Int).natAbs<2^256*2^44:=by decide
theorem Bv{m:Nat}(h:m<=256):(((2^m-1:Nat):Int)).natAbs<2^256*2^44:=by
 rw[sj];have h1:2^m<=2^256:=cq odz h;have h2:1<=2^m:=ip;exact oo
theorem PU(m:Nat):(1:Int)*2^((m:Nat):Int).toNat-1=((2^m-1:Nat):Int):=by
 rw[BI];have:1<=2^m:=ip;exact oo
theorem Ef{k:Nat}(h:j<=8):(((dH j k:Nat):Int)).natAbs<2^256*2^44:=by
 rw[sj];have h1:dH j k<2^(2^j):=pX _ _;have h2:2^(2^j)<=2^256:=cq odz (vK h);exact oo
theorem Eg(T:Txt P w K mg t):FM P w base T.q96 1 y9:=by
 refine T.q96.F.eK (N:=["_law_many","_law_place","_law_told","_law_size"]) eo ?_;rintro nd _ _ _ _ H vs Q E hr ⟨n,kk,rfl,hk,hn,k⟩
 refine⟨_,(ao (eT 2 nd (aD ji (aD cW (aD ji ak (aD ji ak (af 1))) ak) (aD ji ak (af 1))))
   (ao (eT 3 nd (aD ji ak (af 1)))
   (ao (j7 i7 (aF mV (af 3) (aD ji ak (af 0)) (aH _))
    (ao (eT 2 nd (aD mU (af 2) (aD ji (af 2) (af 3))))
    (aq (eT 3 nd (aD gD ak (af 3))))))
   (aq (aA (af 2)))))),?_⟩
 have hk8:=vK (show kk<=8 by omega);have cA:tO 1 ((kk:Nat):Int):=mH oo oo pA;have cA2:tO 2 ((kk:Nat):Int):=mH oo oo odz
 have cB:tO 1 ((1:Int)*2^((kk:Nat):Int).toNat):=by
  rw[BI];exact mH (BH oo).1 (BH oo).2 pA
 have cC:tO ((1:Int)*2^((1:Int)*2^((kk:Nat):Int).toNat).toNat-1) ((1:Int)*2^((kk:Nat):Int).toNat):=by
  rw[BI,PU];exact mH (BH oo).1 (BH oo).2 (Bv hk8)
 refine⟨_,Z,_,_,Z,Z,cA,_,_,Z,Z,cB,_,_,Z,Z,_,Z,_,_,Z,Z,cA,_,_,Z,Z,cC,?_⟩
 have e0:((1:Int)*2^((1:Int)*2^((kk:Nat):Int).toNat).toNat-1)*2^((1:Int)*2^((kk:Nat):Int).toNat).toNat=((dH (kk+1) kk:Nat):Int):=by
  rw[BI,PU,bo,<- Ea,nS];simp
 try dsimp -proj -iota only
 rw[e0];refine⟨_,Z,_,_,Z,Z,cA2,?_⟩
 have e1:(2:Int)*2^((kk:Nat):Int).toNat=((2^(kk+1):Nat):Int):=by
  rw[bo,fS,kz,nS];simp
 try dsimp -proj -iota only
 rw[e1];refine⟨fun m σ H2=>∃ j:Nat,σ=[some (.int n),some (.int kk),some (.int (dH j kk:Nat)),some (.int (2^j:Nat))]/\H2=H/\kk<j/\j<=n/\m=n-j,⟨_,kk+1,Z,Z,oo,oo,Z⟩,?_⟩;rintro m σ H2 ⟨j,rfl,rfl,hj,hjn,rfl⟩;refine⟨_,Z,_,Z,_,_,Z,Z,mH oo oo pA,?_⟩
 try dsimp -proj -iota only
 rw[BI];refine⟨_,_,Z,Z,_,Z,aQ (fun c=>?_) (fun c=>?_)⟩
 ·have c:((2^j:Nat):Int)<((2^n:Nat):Int):=en c
  have Vz:j<n:=by
   rcases Nat.lt_or_ge j n with h|h
   ·exact h
   have:2^n<=2^j:=cq odz h;exact oo
  have hj8:=vK (show j<=8 by omega);refine⟨fun σ' H'=>∃ m',m'<n-j/\∃ j:Nat,σ'=[some (.int n),some (.int kk),some (.int (dH j kk:Nat)),some (.int (2^j:Nat))]/\H'=H2/\kk<j/\j<=n/\m'=n-j,fun _ _ h=>h,?_⟩;refine⟨_,Z,_,Z,_,Z,_,_,Z,Z,mH (BH oo).1 (BH oo).2 (Ef oo),?_⟩;have e2:((dH j kk:Nat):Int)*2^((2^j:Nat):Int).toNat=((dH j kk*2^(2^j):Nat):Int):=by rw[bo,nS];simp
  try dsimp -proj -iota only
  rw[e2];refine⟨_,_,Z,Z,?_⟩
  try dsimp -proj -iota only
  rw[bor,G7 hj];refine⟨_,Z,_,_,Z,Z,.inl ⟨odz,odz⟩,?_⟩;have e3:(2:Int)*((2^j:Nat):Int)=((2^(j+1):Nat):Int):=by rw[fS];exact oo
  try dsimp -proj -iota only
  rw[e3];exact⟨_,oo,j+1,Z,Z,oo,oo,Z⟩
 have c:¬((2^j:Nat):Int)<((2^n:Nat):Int):=fun z=>c (cS z)
 have Vz:j=n:=by
  rcases Nat.lt_or_ge j n with h|h
  ·have:2^j<2^n:=Nat.pow_lt_pow_right odz h
   exact oo
  exact oo
 subst Vz;exact⟨_,Z,k⟩
inductive yY(d:Nat)(vs:List V)(H:Hp)(Q:VK)(E:XK):Prop
 |mk(p:Addr)(v:V)(ns:List Str)(tr:Tr)(_:vs=[.ref p,v])(_:H p=some (.tup (ns.map V.str)))(_:ns.length<=8)(_:c8 H v tr)(_:tr.depth<=d)(_:(∀ x∈tr.names,x∈ns))(_:∀ H',aT H H'->Q (.int (aP ns tr:Nat)) H')
theorem yX(x y:Str):l9 (.str x) (.str y)=decide (x=y):=by
 show(x==y)=_
 by_cases z:x=y
 ·simp[z]
 simp[z]
theorem uQ(ns:List Str)(h:j<ns.length):(ns.map V.str).getD j .non=.str ns[j]:=by
 rw[List.getD,kT,List.getElem?_eq_getElem h]
 rfl
theorem Bw{m:Nat}(h:m<ns.idxOf x)(hm:m<ns.length):¬ns[m]=x:=by
 have:=List.not_of_lt_findIdx (p:=fun y=>y==x) (xs:=ns) (i:=m) h;intro z;rw[z]at this;simp at this
theorem nX:b_ ["_law_names","_law_tree","_law_every","_law_one","_law_other"] ["_law_names","_law_tree"] (aV T8):=eo
theorem iI(T:Txt P w K mg t):∀ d:Nat,FO P w K mg base (d+2) t.YB t.Yk ["_law_names","_law_tree"] (yY d)
 | 0=>by
  refine T.q97.F.rf nX (fun vs H Q E h=>by obtain⟨p,v,ns,tr,rfl,_⟩:=h;rfl) (fun g9 A outer s H vs Q E hr h=>?_);obtain⟨p,v,ns,tr,rfl,hp,h8,ht,hd,k⟩:=h;have:=tr.i9;exact oo
 | d + 1=>by
  refine T.q97.F.rf nX (fun vs H Q E h=>by obtain⟨p,v,ns,tr,rfl,_⟩:=h;rfl) (fun g9 A outer s H vs Q E hr h=>?_);obtain⟨p,v,ns,tr,rfl,hp,h8,ht,hd,kH,k⟩:=h;obtain⟨a,rest,rfl,ha,D7,rS⟩:=ht.open;have nd:=nX.nd
  refine⟨_,(ao (eT 2 nd (aD cW (aD gm ak (aD gm ak (aZ aW T.zd Bt.len (aa (af 0) aj)))) ak))
   (ao (aR (aF aU (cy aJ (af 1) ak) az (aH _))
    (aq (aA (dn T.q96 (Eg T) hr aM (aa (aZ aW T.zd Bt.len (aa (af 0) aj)) (aa (MN PySem.F.slot_tuple_index PySem.F.type_tuple_index Dp (af 0) (aa (cy aJ (af 1) ak) aj)) aj)))))
    aO)
   (ao (aR (aF aU (cy aJ (af 1) ak) az (aH _))
    (aq (aA (af 2)))
    aO)
   (ao (aR (aF aU (cy aJ (af 1) ak) az (aH _))
    (aq (aA ak))
    aO)
   (ao (eT 3 nd (dn T.q97 (iI T d) hr aM (aa (af 0) (aa (cy aJ (af 1) ak) aj))))
   (ao (aR (aF aU (cy aJ (af 1) ak) az (aH _))
    (aq (aA (aD mz (af 2) (af 3))))
    aO)
   (ao (eT 4 nd (dn T.q97 (iI T d) hr aM (aa (af 0) (aa (cy aJ (af 1) ak) aj))))
   (ao (aR (aF aU (cy aJ (af 1) ak) az (aH _))
    (aq (aA (aD eY (af 3) (af 4))))
    aO)
   (ao (aR (aF aU (cy aJ (af 1) ak) az (aH _))
    (aq (aA (aD mU (af 3) (af 4))))
    aO)
   (ao (aR (aF aU (cy aJ (af 1) ak) az (aH _))
    (aq (aA (aD mU (aD mz (af 2) (af 3)) (af 4))))
    aO)
   (aq (aA (aD mz (aD mz (af 2) (af 3)) (af 4)))))))))))))),?_⟩
  have el:(ns.map V.str).length=ns.length:=dS _;have RF:qo (V.str tr.tag::rest) 0=some (.str tr.tag):=bR (j:=0) rfl;have c1:oA 1 (((ns.map V.str).length:Nat):Int):=⟨oo,by rw[el];exact oo,odz⟩
  have c2:oA 1 ((1:Int)*2^(((ns.map V.str).length:Nat):Int).toNat):=by
   rw[el,BI];exact⟨(BH h8).1,by have:=(BH h8).2;exact oo,odz⟩
  have ef:(1:Int)*2^((1:Int)*2^(((ns.map V.str).length:Nat):Int).toNat).toNat-1=((cu ns.length:Nat):Int):=by
   rw[el,BI,PU]
   rfl
  refine⟨_,Z,p,_,Z,.inr (SqT.of hp),_,_,Z,Z,c1,_,_,Z,Z,c2,_,_,Z,Z,?_⟩
  try dsimp -proj -iota only
  rw[ef];refine⟨_,Z,a,_,0,.str tr.tag,Z,Z,SqT.of ha,RF,Z,_,Z,aQ (fun c=>?N) (fun c1=>⟨_,Z,a,_,0,.str tr.tag,Z,Z,SqT.of ha,RF,Z,_,Z,aQ (fun c=>?Y) (fun c2=>⟨_,Z,a,_,0,.str tr.tag,Z,Z,SqT.of ha,RF,Z,_,Z,aQ (fun c=>?O) (fun c3=>?R)⟩)⟩)⟩
  case N =>
   obtain⟨x,rfl⟩:=Ju (en c);have hx:x∈ns:=kH x qms;have hi:=me.mpr hx;have hg:ns[ns.idxOf x]=x:=List.getElem_idxOf hi;refine⟨_,Z,p,_,Z,.inr (SqT.of hp),_,Z,p,_,Z,hp,_,Z,a,_,1,.str x,Z,Z,SqT.of (Hl ht),Z,p,_,.str x,ns.idxOf x,Z,Z,SqT.of hp,Z,uO ns,by rw[el];exact hi,?_,fun m hm=>?_,ns.length,ns.idxOf x,?_,hi,h8,k H (aT.refl H)⟩
   ·rw[uQ ns hi,hg,yX,cS rfl]
   ·rw[uQ ns oo,yX]
    exact gp (Bw hm oo)
   rw[el];rfl
  case Y =>
   obtain rfl:=Eb (en c);have k:=k H (aT.refl H);rw[M3]at k;exact⟨_,Z,k⟩
  case O =>
   obtain rfl:=Jv (en c);have k:=k H (aT.refl H);rw[O6]at k;exact k
  case R =>
   cases tr with
   |nm x=>exact absurd (cS rfl) c1
   |yes=>exact absurd (cS rfl) c2
   |no=>exact absurd (cS rfl) c3
   | not u =>
    obtain⟨vu,QK,RP⟩:=Bu ht;have hd:u.depth+1<=d+1:=hd;refine⟨_,Z,_,Z,a,_,1,vu,Z,Z,SqT.of QK,Z,p,vu,ns,u,Z,hp,h8,RP,oo,kH,fun H1 s1=>?_⟩;refine⟨_,Z,a,_,0,.str "not",Z,Z,SqT.of (s1 _ _ QK),Z,Z,_,Z,aQ (fun c=>?_) (fun c=>absurd (cS rfl) c)⟩;refine⟨_,Z,_,Z,_,_,Z,Z,?_⟩;have k:=k H1 s1;rw[M4,<- bxor]at k;exact k
   | bin o x y =>
    obtain⟨vx,vy,xS,RO,we⟩:=Bs ht;have hd:max x.depth y.depth+1<=d+1:=hd;have nn:¬(decide (V.str o.str=V.str ("not":Str))=true):=fun z=>(m8 o).2.2.1 (V.str.inj (en z))
    refine⟨_,Z,_,Z,a,_,1,vx,Z,Z,SqT.of xS,Z,p,vx,ns,x,Z,hp,h8,RO,oo,fun z hz=>kH z (sN _ hz),fun H1 s1=>?_⟩;refine⟨_,Z,a,_,0,.str o.str,Z,Z,SqT.of (s1 _ _ xS),Z,Z,_,Z,aQ (fun c=>absurd c nn) (fun _=>?_)⟩;refine⟨_,Z,_,Z,a,_,2,vy,Z,Z,SqT.of (s1 _ _ xS),Z,p,vy,ns,y,Z,s1 _ _ hp,h8,we.mono s1.b9,oo,fun z hz=>kH z (m_ _ hz),fun H2 s2=>?_⟩;have j_:=s1.trans s2;have k:=k H2 j_;refine⟨_,Z,a,_,0,.str o.str,Z,Z,SqT.of (j_ _ _ xS),Z,Z,_,Z,aQ (fun c=>?A) (fun c1=>⟨_,Z,a,_,0,.str o.str,Z,Z,SqT.of (j_ _ _ xS),Z,Z,_,Z,aQ (fun c=>?O) (fun c2=>⟨_,Z,a,_,0,.str o.str,Z,Z,SqT.of (j_ _ _ xS),Z,Z,_,Z,aQ (fun c=>?T) (fun c3=>?S)⟩)⟩)⟩
    case A =>
     obtain rfl:o=.and:=p6 (o':=.and) (en c);rw[M5,<- band]at k;exact⟨_,Z,_,Z,_,_,Z,Z,k⟩
    case O =>
     obtain rfl:o=.or:=p6 (o':=.or) (en c);rw[O7,<- bor]at k;exact⟨_,Z,_,Z,_,_,Z,Z,k⟩
    case T =>
     obtain rfl:o=.thn:=p6 (o':=.thn) (en c);rw[M6,<- bor,<- bxor]at k;exact⟨_,Z,_,Z,_,_,Z,Z,_,Z,_,_,Z,Z,k⟩
    case S =>
     obtain rfl:o=.same:=by
      cases o with
      |and=>exact absurd (cS rfl) c1
      |or=>exact absurd (cS rfl) c2
      |thn=>exact absurd (cS rfl) c3
      |same=>rfl
     rw[Kr,<- bxor,<- bxor]at k;exact⟨_,Z,_,Z,_,_,Z,Z,_,Z,_,_,Z,Z,k⟩
inductive Cs(vs:List V)(H:Hp)(Q:VK)(E:XK):Prop
 |mk(i:_)(_:vs=[.int i])(_:Q (.bl true) H)
theorem Ht(T:Txt P w K mg t):FM P w base T.q92 1 Cs:=by
 refine T.q92.F.eK (N:=["_law_found"]) eo ?_;rintro nd _ _ _ _ H vs Q E hr ⟨i,rfl,k⟩;refine⟨_,(aq (aA (oh (aZ fZ T.zq Bt.isinstance (aa (af 0) (aa (jO (v:=.ty "int") T.zG Bt.int rfl) aj))) (lZ (Lx (aZ fZ T.zq Bt.isinstance (aa (af 0) (aa (jO (v:=.ty "bool") T._e Bt.bool rfl) aj)))))))),?_⟩;refine⟨_,Z,_,_,_,_,true,Z,Z,.int _,Z,_,Z,?_⟩;exact⟨_,Z,_,_,_,_,false,Z,Z,.int _,Z,_,Z,k⟩
inductive C2(t:ku)(vs:List V)(H:Hp)(Q:VK)(E:XK):Prop
 |mk(p dx sl bl:Addr)(mv bv:List V)(a np r:Addr)(rs:List Int)(v:V)(ns:List Str)(tr:Tr)(lean:Int)(_:vs=[.ref p,v,.int lean])(_:fR t.zc H p dx sl bl (mv++[.ref a]) bv)(_:mv.length<=400)(_:cb H a np r rs)(_:Fits H np v ns tr)(_:((∀ x∈tr.names,x∈ns)->match aN (sel rs (aC ns tr)),aN (sel rs (aP ns tr))with|none,_=>∀ H',aT H H'->E (.ref t.zh) none H'|some _,none=>∀ H',aT H H'->E (.ref t.zi) none H'|some x,some y=>∀(b q hX:Addr)(H':Hp),H hX=none->nj p sl H H'->fR t.zc H' p dx sl hX (mv++[.ref a]++[.ref b]) []->cb H' b np q (fc rs (aC ns tr) x y lean)->Q .non H'))(_:((¬ ∀ x∈tr.names,x∈ns)->∀ H',aT H H'->E (.ref t.zf) none H'))
theorem Hu(T:Txt P w K mg t):Fm P w mg base T.q37 121 (C2 t):=by
 refine T.q37.F.eK (N:=["self","tree","lean"]) eo ?_;rintro nd _ _ _ _ H vs Q E hr ⟨p,dx,sl,bl,mv,bv,a,np,r,rs,v,ns,tr,lean,rfl,U,nk,hm,fit,k,kn⟩;refine⟨_,(aq (bA (EZ (af 0) T.zg T.q34 (ph T) hr aM (aa (dn T.q28 (tZ T) hr bx (aa (jL (af 0) T.zg T.q41 (ni T) hr aM) (aa (af 1) (aa (af 2) aj)))) aj)))),?_⟩;refine⟨_,Z,p,dx,_,Z,U.ob,iU _ _ dk dk,_,Z,p,dx,_,Z,U.ob,iU _ _ dk dk,p,dx,sl,bl,mv,bv,.ref a,Z,U,_,Z,_,Z,a,np,r,rs,v,ns,tr,lean,Z,hm,fit,fun hall=>?_,kn⟩;have k:=k hall;cases hb:aN (sel rs (aC ns tr))with
 | none =>
  rw[hb]at k;exact k
 | some x =>
  cases hk:aN (sel rs (aP ns tr))with
  | none =>
   rw[hb,hk]at k;exact k
  | some y =>
   rw[hb,hk]at k;exact fun b q H1 s1 hm1=>⟨p,dx,sl,bl,mv++[.ref a],bv,.ref b,rfl,U.mono s1,by rw[aS];show mv.length+1<=500;exact oo,fun hX H2 D' U2 kp=>k b q hX H2 (s1.free D') (fun c o e h1 h2=>kp c o (s1 _ _ e) h1 h2) U2 (pq (U.mono s1) kp hm1)⟩
structure gi(ns:List Str):Prop where
 nd:ns.Nodup
 nm:∀ x∈ns,mx x
inductive yy(vs:List V)(H:Hp)(Q:VK)(E:XK):Prop
 |mk(c n:Int)(_:vs=[.int c,.int n])(_:1<=n)(_:n<=8)(_:∀(p:Addr)(ns:List Str)(H':Hp),aT H H'->H' p=some (.tup (ns.map V.str))->ns.length=n.toNat->gi ns->Q (.ref p) H')
def qR(c:Nat)(n:Nat):Str:=⟨(List.replicate n c).toArray⟩
theorem pB(c n:Nat):(qR c n).cps.toList=List.replicate n c:=by simp[qR]
theorem Kz(c:Nat)(n:Int):Txt.mul ⟨#[c]⟩ n=qR c n.toNat:=by
 refine Kp ?_;rw[mul_one_list,pB]
theorem jP{i:Int}(h0:0<=i)(h:i<26):qo lT.cps.toList i=some (97+i.toNat):=qL h0 (Bq i.toNat oo)
theorem t6(c:Nat):(⟨#[c]⟩:Str).length=1:=rfl
theorem KC(f:Nat->Nat)(n:Nat)(z:Str):(((List.range n).map fun i=>(⟨#[f i]⟩:Str)).map (·.length)).sum+((List.range n).map fun i=>(⟨#[f i]⟩:Str)).length*z.length=n+n*z.length:=by
 have e:∀ l:List Nat,((l.map fun i=>(⟨#[f i]⟩:Str)).map (·.length)).sum=l.length:=by
  intro l
  induction l with
  |nil=>rfl
  | cons x r ih =>
   rw[b3,b3,List.sum_cons,ih,bp];show 1+r.length=_;exact oo
 rw[e,dS,b5]
theorem wX(f:Nat->Nat):∀ l:List Nat,(l.flatMap fun i=>[f i])=l.map f
 |[]=>rfl
 |x::r=>by rw[fw,b3,wX f r];rfl
theorem Eh:("":Str)=⟨#[]⟩:=by decide +kernel
theorem Hv(x:Str){u:Int}(hu:0<=u):(dD x (some u) none).cps.toList=x.cps.toList.drop u.toNat:=by
 rw[fG];have e:HT.fb x.length x.length none=x.length:=rfl
 have e0:HT.fb x.length 0 (some u)=min u.toNat x.length:=by
  show(if u<0 then _ else _)=_;rw[bq oo]
 have lx:x.cps.toList.length=x.length:=ag;rw[e,e0];rcases Nat.le_total u.toNat x.length with h1|h1
 ·rw[AZ h1]
  exact fe (by rw[dA];exact oo)
 rw[Nat.min_eq_right h1,List.drop_of_length_le (show x.cps.toList.length<=x.length by omega),List.drop_of_length_le (show x.cps.toList.length<=u.toNat by omega),List.take_nil]
theorem pC(f:Nat->Str)(hi:∀ i j,i<n->j<n->f i=f j->i=j)(hn:∀ i,i<n->mx (f i)):gi ((List.range n).map f):=by
 refine⟨?_,fun x hx=>?_⟩
 ·rw[EL,List.pairwise_map]
  refine List.Pairwise.imp_of_mem (R:=fun a b=>a≠b) (fun {a b} ha hb xS e=>xS ?_) (EL.mp List.nodup_range);exact hi a b (eI.mp ha) (eI.mp hb) e
 obtain⟨i,h,rfl⟩:=ck.mp hx;exact hn i (eI.mp h)
def sM(first:Int)(k:Nat):Nat:=97+((first+5*k)%26).toNat
def HM(jv:Str)(place first:Int)(k:Nat):Str:=dD jv none (some place)++⟨#[sM first k]⟩++dD jv (some place) none
theorem yZ(hi:i<8)(hj:j<8)(h:sM first i=sM first j):i=j:=by
 unfold sM at h;exact oo
theorem Ei(first:Int)(k:Nat):97<=sM first k/\sM first k<=122:=by unfold sM;exact oo
theorem vL{jv:Str}{place:Int}(h0:0<=place)(k:Nat):(HM jv place first k).cps.toList=jv.cps.toList.take place.toNat++[sM first k]++jv.cps.toList.drop place.toNat:=by
 unfold HM;rw[vI,vI,Ms _ h0,Hv _ h0]
def kU:List Str:=["back","take","worlds","again","names","give","lean","ask"]
theorem yo(m:Nat):gi (kU.take m):=by
 refine⟨List.Sublist.nodup (List.take_sublist _ _) dk,fun x hx=>?_⟩;have h:∀ x∈kU,1<=x.cps.toList.length/\x.cps.toList.length<=8/\∀ c∈x.cps.toList,97<=c/\c<=122:=by decide +kernel
 have:=h x (oB hx);exact⟨this.1,this.2.1,this.2.2⟩
theorem Ej(T:Txt P w K mg t):FM P w base T.q94 1 yy:=by
 refine T.q94.F.eK (N:=["_law_cell","_law_many","_law_letters","_law_first","_law_size","_law_place","_law_stem"]) eo ?_;rintro nd _ _ _ _ H _ Q _ hr ⟨c,n,rfl,xD,hn8,k⟩
 refine⟨_,(ao (DM 2 nd az)
   (ao (aR (aF aU (aD bZ (g5 0) ak) ak (aH _))
    (aq (aA (dj dC T.zn Bt.tuple (aa (ik tH (bz (aa az (aa az (aa az (aa az (aa az (aa az (aa az (aa az aj))))))))) jV (iG (g5 1))) aj))))
    aO)
   (ao (DM 3 nd (aD bZ (aD gn (g5 0) ak) ak))
   (ao (aR (aF aU (aD bZ (g5 0) ak) ak (aH _))
    (aq (aA (dj dC T.zn Bt.tuple (aa (bW rfl ["_law_k","_law_letters","_law_first"] [none,some 2,some 3] (gw T.zp (aa (g5 1) aj)) kr (fun _ _ _ _ _ _=>(g6 0 (kF (l:=["_law_k","_law_letters","_law_first"])))) (fun _ _ _ _ _ _=>cM) (fun _ _ _ _ _ _=>(cy oG (g5 1) (aD bZ (aD cQ (g5 2) (aD gD ak (af 0))) ak)))) aj))))
    aO)
   (ao (aR (aF aU (aD bZ (g5 0) ak) ak (aH _))
    (aq (aA (dj dC T.zn Bt.tuple (aa (bW rfl ["_law_k","_law_letters","_law_first","_law_many"] [none,some 2,some 3,some 1] (gw T.zp (aa (g5 1) aj)) kr (fun _ _ _ _ _ _=>(g6 0 (kF (l:=["_law_k","_law_letters","_law_first","_law_many"])))) (fun _ _ _ _ _ _=>cM) (fun _ _ _ _ _ _=>(aD Bk (cy oG (g5 1) (g5 2)) (aD cW (g5 3) (af 0))))) aj))))
    aO)
   (ao (eT 4 nd (aD cQ ak (aD bZ (aD gn (g5 0) ak) ak)))
   (ao (DM 5 nd (aD bZ (aD gn (g5 0) ak) (aD cQ (af 4) ak)))
   (ao (DM 6 nd (bY PySem.F.plainAttrs_str PySem.F.slot_str_join PySem.F.type_str_join jW az (aa (bW rfl ["_law_k","_law_letters","_law_cell"] [none,some 2,some 0] (gw T.zp (aa (af 4) aj)) kr (fun _ _ _ _ _ _=>(g6 0 (kF (l:=["_law_k","_law_letters","_law_cell"])))) (fun _ _ _ _ _ _=>cM) (fun _ _ _ _ _ _=>(cy oG (g5 1) (aD bZ (aD cQ (aD gn (g5 2) ak) (aD gD ak (af 0))) ak)))) aj)))
   (aq (aA (dj dC T.zn Bt.tuple (aa (bW rfl ["_law_k","_law_stem","_law_letters","_law_place","_law_first"] [none,some 6,some 2,some 5,some 3] (gw T.zp (aa (g5 1) aj)) kr (fun _ _ _ _ _ _=>(g6 0 (kF (l:=["_law_k","_law_stem","_law_letters","_law_place","_law_first"])))) (fun _ _ _ _ _ _=>cM) (fun _ _ _ _ _ _=>(aD bh (aD bh (ik wC (g5 1) jV (iG (g5 3))) (cy oG (g5 2) (aD bZ (aD cQ (g5 4) (aD gD ak (af 0))) ak))) (ik wC (g5 1) (iG (g5 3)) jV)))) aj)))))))))))),?_⟩
 have P2:lT.length<=sizeLine:=by rw[yh];decide
 refine⟨_,Z,_,_,Z,Z,(by show(0:Int)<16;decide),Z,_,Z,aQ (fun _=>?b0) (fun _=>?b1)⟩
 case b0 =>
  refine⟨lk obz,fun q0 E'=>?_⟩;have s0:=aB (o:=.lst (kU.map V.str)) E';refine⟨_,Z,_,Z,q0,kU.map V.str,Z,SqL.of au,fun p3 wx=>?_⟩
  have ec:ir (kU.map V.str) none (some n)=(kU.take n.toNat).map V.str:=by
   rw[List.map_take];unfold ir HT.fb;simp only[EN,dS];rw[bq oo,Nat.sub_zero,AZ (by show n.toNat<=8;exact oo)]
  rw[ec];have s1:=aB (o:=.lst ((kU.take n.toNat).map V.str)) wx;refine⟨p3,_,Z,.inl ⟨SqL.of au,fun l hl=>?_⟩⟩;exact k l _ _ ((s0.trans s1).trans (aB hl)) au (by rw[bE];show min n.toNat 8=_;exact oo) (yo _)
 case b1 =>
 refine⟨_,Z,_,_,Z,Z,⟨odz,odz⟩,_,_,Z,Z,(by show(0:Int)<26;decide),?_⟩
 try dsimp -proj -iota only
 obtain⟨first,hfi,hf0,hf1⟩:∃ first:Int,c/5%26=first/\0<=first/\first<26:=⟨_,rfl,oo,oo⟩
 rw[hfi];have hn:n.toNat<=8:=oo
 have fin:∀(f:Nat->Str)(p3:Addr)(H2 H3:Hp),aT H H2->H2 p3=none->H3=upd H2 p3 (.lst (((List.range n.toNat).map f).map V.str))->gi ((List.range n.toNat).map f)->∀ l,H3 l=none->Q (.ref l) (upd H3 l (.tup (((List.range n.toNat).map f).map V.str))):=by
  rintro f p3 H2 H3 s2 wx rfl hN l hl;exact k l _ _ ((s2.trans (aB wx)).trans (aB hl)) au oz hN
 refine⟨_,Z,_,_,Z,Z,(by show(0:Int)<5;decide),Z,_,Z,aQ (fun _=>?a0) (fun _=>⟨_,Z,_,_,Z,Z,(by show(0:Int)<5;decide),Z,_,Z,aQ (fun _=>?a1) (fun _=>?a2)⟩)⟩
 case a0 =>
  refine⟨_,Z,n,Z,oo,oo,?_⟩;refine cZ (n:=n.toNat) (fun i=>.str ⟨#[sM first i]⟩) (lk oo) (fun i R hi r=>?_) (fun p3 wx=>?_)
  ·refine⟨⟨Z,Z,trivial⟩,?_⟩
   refine⟨_,Z,_,Z,_,Z,_,_,Z,Z,.inl ⟨odz,odz⟩,_,_,Z,Z,_,_,Z,Z,(by show(0:Int)<26;decide),_,_,_,Z,Z,P2,jP oo oo,?_⟩;have e:sM first i=97+((first+5*(0+(i:Int)))%26).toNat:=by unfold sM;rw[fz]
   rw[<- e];exact r
  have e:((List.range n.toNat).map fun i=>V.str ⟨#[sM first i]⟩)=((List.range n.toNat).map fun i=>(⟨#[sM first i]⟩:Str)).map V.str:=by rw[eD];rfl
  rw[e]
  exact⟨p3,_,rfl,.inl ⟨SqL.of au,fun l hl=>fin _ p3 _ _ (aT.refl H) wx rfl (pC _ (fun i j hi hj h=>yZ (first:=first) oo oo (by have:=bP (fun z:Str=>z.cps.toList) h;exact(List.cons.inj this).1)) (fun i _=>⟨by show 1<=1;decide,by show 1<=8;decide,fun x hx=>by
   have hx:x∈[sM first i]:=hx
   rw[ar.mp hx];exact Ei first i⟩)) l hl⟩⟩
 case a1 =>
  obtain⟨fill,hfe,hff⟩:∃ fill:Nat,97+first.toNat=fill/\97<=fill/\fill<=122:=⟨_,rfl,oo,oo⟩
  refine⟨_,Z,n,Z,oo,oo,?_⟩;refine cZ (n:=n.toNat) (fun(i:Nat)=>.str (qR fill (n-i).toNat)) (lk oo) (fun i R hi r=>?_) (fun p3 wx=>?_)
  ·refine⟨⟨Z,Z,Z,trivial⟩,?_⟩
   refine⟨_,Z,_,Z,_,_,_,Z,Z,P2,jP hf0 hf1,_,Z,_,Z,_,_,Z,Z,_,_,Z,Z,(by rw[t6];decide),?_,?_,?_⟩
   ·show(-1000:Int)<=n-(0+(i:Int))
    exact oo
   ·show n-(0+(i:Int))<=(1000:Int)
    exact oo
   have e:Txt.mul ⟨#[97+first.toNat]⟩ (n-(0+(i:Int)))=qR fill (n-i).toNat:=by
    rw[Kz,fz,hfe]
   rw[<- e]at r;exact r
  have e:((List.range n.toNat).map fun(i:Nat)=>V.str (qR fill (n-i).toNat))=((List.range n.toNat).map fun(i:Nat)=>qR fill (n-i).toNat).map V.str:=by rw[eD];rfl
  rw[e]
  exact⟨p3,_,rfl,.inl ⟨SqL.of au,fun l hl=>fin _ p3 _ _ (aT.refl H) wx rfl (pC _ (fun i j hi hj h=>by
   have h:=bP (fun z:Str=>z.cps.toList.length) h;simp only[pB,d_]at h
   exact oo) (fun i hi=>⟨by rw[pB,d_];exact oo,by rw[pB,d_];exact oo,fun x hx=>by
   rw[pB]at hx
   rw[(fk.mp hx).2];exact hff⟩)) l hl⟩⟩
 case a2 =>
  refine⟨_,Z,_,_,Z,Z,⟨odz,odz⟩,_,_,Z,Z,(by show(0:Int)<7;decide),_,_,Z,Z,?_⟩
  try dsimp -proj -iota only
  obtain⟨size,hse,hs1,hs7⟩:∃ size:Int,1+c/130%7=size/\1<=size/\size<=7:=⟨_,rfl,oo,oo⟩
  rw[hse];refine⟨_,Z,_,_,Z,Z,⟨odz,odz⟩,_,Z,_,_,Z,Z,_,_,Z,Z,(by show(0:Int)<size+1;exact oo),?_⟩
  try dsimp -proj -iota only
  have IG:=Ap (c/910) (show size+1≠0 by omega);have hp1:=BG (c/910) (show 0<size+1 by omega);generalize c/910%(size+1)=place at IG hp1 ⊢;refine⟨Z,_,Z,size,Z,oo,oo,?_⟩;refine cZ (n:=size.toNat) (fun(i:Nat)=>.str ⟨#[97+((c/6370+3*(i:Int))%26).toNat]⟩) (lk oo) (fun i R hi r=>?_) (fun p1 R3=>?_)
  ·refine⟨⟨Z,Z,trivial⟩,?_⟩
   refine⟨_,Z,_,Z,_,_,Z,Z,⟨odz,odz⟩,_,Z,_,_,Z,Z,.inl ⟨odz,odz⟩,_,_,Z,Z,_,_,Z,Z,(by show(0:Int)<26;decide),_,_,_,Z,Z,P2,jP oo oo,?_⟩;have e:97+((c/6370+3*(0+(i:Int)))%26).toNat=97+((c/6370+3*(i:Int))%26).toNat:=by rw[fz]
   rw[e];exact r
  have RR:(((List.range size.toNat).map fun(i:Nat)=>(⟨#[97+((c/6370+3*(i:Int))%26).toNat]⟩:Str)).map (·.length)).sum+((List.range size.toNat).map fun(i:Nat)=>(⟨#[97+((c/6370+3*(i:Int))%26).toNat]⟩:Str)).length*("":Str).length <= 16777216:=by
   rw[KC (fun(i:Nat)=>97+((c/6370+3*(i:Int))%26).toNat) size.toNat]
   try simp only[dS,b5]
   have e:("":Str).length=0:=by decide +kernel
   rw[e];exact oo
  refine⟨_,p1,(List.range size.toNat).map fun(i:Nat)=>⟨#[97+((c/6370+3*(i:Int))%26).toNat]⟩,Z,Z,SqL.of (by rw[au,eD];rfl),RR,?_⟩
  have AF:(Txt.join ("":Str) ((List.range size.toNat).map fun(i:Nat)=>(⟨#[97+((c/6370+3*(i:Int))%26).toNat]⟩:Str))).cps.toList=(List.range size.toNat).map fun(i:Nat)=>97+((c/6370+3*(i:Int))%26).toNat:=by
   rw[Eh,MT,List.flatMap_map];exact wX (fun(i:Nat)=>97+((c/6370+3*(i:Int))%26).toNat) _
  generalize Txt.join ("":Str) ((List.range size.toNat).map fun(i:Nat)=>(⟨#[97+((c/6370+3*(i:Int))%26).toNat]⟩:Str))=jv at AF ⊢;have hsl:jv.cps.toList.length=size.toNat:=by rw[AF,dS,b5]
  have Vj:∀ x∈jv.cps.toList,97<=x/\x<=122:=fun x hx=>by
   rw[AF]at hx;obtain⟨i,_,rfl⟩:=ck.mp hx;exact oo
  have Vy:jv.length<=sizeLine:=lk (by rw[lF,hsl];exact oo);have s1:=aB (o:=.lst ((List.range size.toNat).map fun(i:Nat)=>V.str ⟨#[97+((c/6370+3*(i:Int))%26).toNat]⟩)) R3;generalize upd H p1 (.lst ((List.range size.toNat).map fun(i:Nat)=>V.str ⟨#[97+((c/6370+3*(i:Int))%26).toNat]⟩))=H1 at s1 ⊢
  have cl:∀ lo hi,(dD jv lo hi).length <= 8:=fun lo hi=>by
   rw[lF,fG,bE,dA,hsl];exact oo
  refine⟨_,Z,n,Z,oo,oo,?_⟩;refine cZ (n:=n.toNat) (fun i=>.str (HM jv place first i)) (lk oo) (fun i R hi r=>?_) (fun p3 wx=>?_)
  ·refine⟨⟨Z,Z,Z,Z,trivial⟩,?_⟩
   refine⟨_,Z,_,Z,_,Z,jv,Z,Vy,_,Z,_,Z,_,Z,_,_,Z,Z,.inl ⟨odz,odz⟩,_,_,Z,Z,_,_,Z,Z,(by show(0:Int)<26;decide),_,_,_,Z,Z,P2,jP oo oo,_,_,Z,Z,lk (by rw[t6];have:=cl none (some place);exact oo),_,Z,_,Z,_,Z,jv,Z,Vy,_,_,Z,Z,lk (by rw[ai,t6];have:=cl none (some place);have:=cl (some place) none;exact oo),?_⟩
   have e:dD jv none (some place)++(⟨#[97+((first+5*(0+(i:Int)))%26).toNat]⟩:Str)++dD jv (some place) none=HM jv place first i:=by
    unfold HM sM;rw[fz]
   rw[<- e]at r;exact r
  have e:((List.range n.toNat).map fun i=>V.str (HM jv place first i))=((List.range n.toNat).map (HM jv place first)).map V.str:=by rw[eD];rfl
  rw[e]
  exact⟨p3,_,rfl,.inl ⟨SqL.of au,fun l hl=>fin _ p3 _ _ s1 wx rfl (pC _ (fun i j hi hj h=>by
   have h:=bP (fun z:Str=>z.cps.toList) h;simp only[vL IG]at h;rw[c_,c_]at h;have h:=List.append_cancel_left h;simp only[List.singleton_append,List.cons.injEq]at h
   exact yZ oo oo h.1) (fun i _=>⟨by
   rw[vL IG];simp only[aS,bE,dA,i6];exact oo,by
   rw[vL IG];simp only[aS,bE,dA,i6];exact oo,fun x hx=>by
   rw[vL IG]at hx;rcases aw.mp hx with hx|hx
   ·rcases aw.mp hx with hx|hx
    ·exact Vj x (oB hx)
    rw[ar.mp hx];exact Ei first i
   exact Vj x (List.mem_of_mem_drop hx)⟩)) l hl⟩⟩
theorem Qo(b:Bool):∃ n:Int,qo [V.int 8,V.int 4] (if b=true then 1 else 0)=some (.int n)/\0<n/\n<=8:=by
 cases b with
 |false=>exact⟨8,Z,odz,odz⟩
 |true=>exact⟨4,Z,odz,odz⟩
inductive CC(K:W.Frag)(vs:List V)(H:Hp)(Q:VK)(E:XK):Prop
 |mk(a:Addr)(cs:List Int)(_:vs=[.ref a])(_:SqL K H a (cs.map V.int))(_:∀(np:Addr)(ns:List Str)(H':Hp),aT H H'->H' np=some (.tup (ns.map V.str))->1<=ns.length->ns.length<=8->gi ns->Q (.ref np) H')
theorem Hw(T:Txt P w K mg t):FM P w base T.q109 2 (CC K):=by
 refine T.q109.F.eK (N:=["_law_script","_law_first"]) eo ?_;rintro nd _ _ _ _ H vs Q E hr ⟨a,cs,rfl,hS,k⟩
 refine⟨_,(ao (eT 1 nd (dn T.q91 (Ks T) hr aM (aa (af 0) (aa ak aj))))
   (aq (aA (dn T.q94 (Ej T) hr aM (aa (af 1) (aa (aD cQ ak (aD bZ (aD gn (af 1) ak) (cy bB (bz (aa ak (aa ak aj))) (dj ut T.zG Bt.int (aa (b8 mW (aZ aW T.zd Bt.len (aa (af 0) aj)) ak (aH _)) aj))))) aj)))))),?_⟩
 refine⟨_,Z,a,cs,0,Z,hS,odz,?_⟩
 try dsimp -proj -iota only
 generalize cs.getD (0:Int).toNat 0=first
 obtain⟨n8,xb,Vu,hn8⟩:=Qo (decide ((20:Int)<((cs.map V.int).length:Nat)));have hm0:=Ap (first/3) (show n8≠0 by omega);have hm1:=BG (first/3) Vu;refine⟨_,Z,_,Z,_,_,Z,Z,⟨odz,odz⟩,lk obz,fun q0 E'=>?_⟩;have s0:=aB (o:=.lst [.int 8,.int 4]) E';refine⟨_,Z,a,_,Z,.inl (s0.seq hS),_,_,Z,Z,.inr ⟨_,Z,q0,_,_,.int n8,Z,Z,SqL.of au,xb,_,_,Z,Z,Vu,_,_,Z,Z,first,1+first/3%n8,Z,oo,oo,fun np ns H1 s1 kG R' hN=>?_⟩⟩;exact k np ns H1 (s0.trans s1) kG oo oo hN
inductive wa(vs:List V)(H:Hp)(Q:VK)(E:XK):Prop
 |mk(a np p r:Addr)(ns:List Str)(rs:List Int)(_:vs=[.ref a,.ref p])(_:cb H a np r rs)(_:H np=some (.tup (ns.map V.str)))(_:H p=some (.tup (ns.map V.str)))(_:ns.length<=8)(_:eC ns rs)(_:Q (.bl true) H)
theorem Bx(T:Txt P w K mg t):FM P w base T.q98 2 wa:=by
 refine T.q98.F.eK (N:=["_law_found","_law_names","_law_rank"]) eo ?_;rintro nd _ _ _ _ H _ _ _ hr ⟨a,np,p,r,ns,rs,rfl,⟨ha,ro,mn⟩,kG,hp,h8,hM,k⟩;have hu:=fX hr
 refine ⟨_,(ao (aR (PW.pt (eX (cP (bV (aZ fZ T.zq Bt.isinstance (aa (af 0) (aa (jO (v:=.ty "tuple") T.zn Bt.tuple rfl) aj))))) (eX (aF gZ (aZ aW T.zd Bt.len (aa (af 0) aj)) ak (aH _)) (eX (cP (bV (aZ fZ T.zq Bt.isinstance (aa (cy aJ (af 0) ak) (aa (jO (v:=.ty "tuple") T.zn Bt.tuple rfl) aj))))) (gk (aF (yP (eJ hu)) (cy aJ (af 0) ak) (af 1) (aH _)))))))
    (aq (aA eU))
    aO)
   (ao (aR (PW.pt (eX (cP (bV (aZ fZ T.zq Bt.isinstance (aa (cy aJ (af 0) ak) (aa (jO (v:=.ty "tuple") T.zn Bt.tuple rfl) aj))))) (gk (aF gZ (aZ aW T.zd Bt.len (aa (cy aJ (af 0) ak) aj)) (aD gm ak (aZ aW T.zd Bt.len (aa (af 1) aj))) (aH _)))))
    (aq (aA eU))
    aO)
   (ao (dX i7 rfl (LR (cy aJ (af 0) ak)) (g6 2 nd)
    (aq (aR (PW.pt (eX (cP (bV (dn T.q92 (Ht T) hr aM (aa (af 2) aj)))) (gk (aF mV (af 2) ak (aH _)))))
     (aq (aA eU))
     aO)))
   (aq (aA (b8 aU (aZ (DG rfl) T.zA Bt.min (aa (cy aJ (af 0) ak) aj)) ak (aH _))))))),?_⟩
 have el:(ns.map V.str).length=ns.length:=dS _;have c1:oA 1 (((ns.map V.str).length:Nat):Int):=⟨oo,by rw[el];exact oo,odz⟩
 have e1:(1:Int)*2^(((ns.map V.str).length:Nat):Int).toNat=((rs.length:Nat):Int):=by rw[el,BI,hM.len]
 refine⟨_,Z,_,_,_,_,true,Z,Z,.tup ha,Z,_,Z,bu ?_⟩;refine⟨_,Z,a,_,Z,.inr (SqT.of ha),Z,_,Z,aQ (fun c=>absurd c (by rw[cS (show V.int (([V.ref np,V.ref r].length:Nat):Int)=V.int 2 from rfl)];decide)) (fun _=>?_)⟩;refine⟨_,Z,a,_,0,_,Z,Z,SqT.of ha,Z,_,_,_,_,true,Z,Z,.tup kG,Z,_,Z,bu ?_⟩;refine⟨_,Z,a,_,0,_,Z,Z,SqT.of ha,Z,_,Z,np,p,ns,ns,Z,Z,SqT.of kG,SqT.of hp,_,Z,?_⟩;rw[cS (rfl:ns=ns)];refine bu ?_;refine⟨_,Z,a,_,1,_,Z,Z,SqT.of ha,Z,_,_,_,_,true,Z,Z,.tup ro,Z,_,Z,bu ?_⟩;refine⟨_,Z,a,_,1,_,Z,Z,SqT.of ha,Z,r,_,Z,.inr (SqT.of ro),_,Z,p,_,Z,.inr (SqT.of hp),_,_,Z,Z,c1,?_⟩
 try dsimp -proj -iota only
 rw[e1,dS];refine⟨Z,_,Z,aQ (fun c=>absurd c (by rw[cS rfl];decide)) (fun _=>?_)⟩;refine⟨_,Z,a,_,1,_,Z,Z,SqT.of ha,Z,r,Z,⟨_,SqT.of ro⟩,JV (K:=K) (a:=r) (xs:=rs.map V.int) (fun i σ H2=>∃(o:Option V),σ=[some (.ref a),some (.ref p),o]/\H2=H) ⟨none,Z,Z⟩ (fun i σ H2 _ ⟨_,_,e⟩=>by subst e;exact SqT.of ro) ?_ ?_⟩
 ·rintro i y σ H2 hi ⟨o,rfl,rfl⟩
  rw[kT]at hi
  obtain⟨x,hx,rfl⟩:∃ x,rs[i]?=some x/\y=V.int x:=by
   cases e:rs[i]? with
   |none=>rw[e]at hi;cases hi
   |some x=>rw[e]at hi;exact⟨x,Z,(iE hi).symm⟩
  have h0:=hM.ge x (qh hx);refine⟨_,Z,x,Z,_,Z,bu ?_⟩;exact⟨_,Z,_,_,Z,Z,_,Z,aQ (fun c=>absurd (en c) oo) (fun _=>⟨_,Z,Z⟩)⟩
 rintro σ H2 ⟨o,rfl,rfl⟩;refine⟨_,Z,a,_,1,_,Z,Z,SqT.of ha,Z,r,rs,Z,SqT.of ro,fT hM.zero,fun M h1 h2=>⟨Z,?_⟩⟩;have e:M=0:=Int.le_antisymm (h2 0 hM.zero) (hM.ge M h1);subst e;exact k
def tT(B:Int)(rs:List Int):Prop:=∀ z∈rs,z<=B
theorem z6{l D:Int}(h0:0<=D)(h:l<=D):cT l<=D:=by
 unfold cT
 split
 ·exact h0
 exact h
theorem Nm{z:Int}(h:z∈rs):∃ i,i<rs.length/\rs.getD i 0=z:=by
 obtain⟨i,hi,e⟩:=List.getElem_of_mem h;exact⟨i,hi,by rw[List.getD,List.getElem?_eq_getElem hi];exact e⟩
theorem Np(h:i<rs.length):rs.getD i 0∈rs:=by
 rw[List.getD,List.getElem?_eq_getElem h];exact gN h
theorem qU{bk:Nat}{x y D:Int}(hx:0<=x)(hy:0<=y)(h0:0<=D)(h1:lean<=D)(h2 : -lean<=D)(hb:tT B rs):tT (B+D) (fc rs bk x y lean):=fun z hz=>by
 obtain⟨i,hi,rfl⟩:=Nm hz;rw[jE]at hi;rw[iw hi];have a1:=hb _ (Np hi);have p1:=z6 h0 h1;have p2:=z6 h0 h2
 split<;>exact oo
theorem gH(h:eC ns rs){x:Int}(hx:aN (sel rs sd)=some x):0<=x:=h.ge x (gP (bf hx).1)
theorem tT.more{B':Int}(h:tT B rs)(hb:B<=B'):tT B' rs:=fun z hz=>Int.le_trans (h z hz) hb
theorem Hx{D:Int}(hM:eC ns rs)(h0:0<=D)(hb:tT B rs):tT (B+D) (dh ns tr rs):=by
 unfold dh
 split
 ·rename_i x y hx hy
  split
  ·exact qU (gH hM hx) (gH hM hy) h0 h0 oo hb
  exact hb.more oo
 exact hb.more oo
theorem Hy{firm D:Int}(hM:eC ns rs)(h0:0<=D)(h1:firm<=D)(h2 : -firm<=D)(hb:tT B rs):tT (B+D) (g8 ns tr rs firm):=by
 unfold g8
 split
 ·rename_i x y hx hy
  exact qU (gH hM hx) (gH hM hy) h0 h1 h2 hb
 exact hb.more oo
theorem Pa{G:L2.St->Hp->Prop}{B:Prop}(S:L2.St->Hp->Prop)(h:(∀ σ H',S σ H'->G σ H')->B)(g:∀ σ H',S σ H'->G σ H'):B:=h g
theorem Jx{S L B:Prop}(hh:(S->L)->B)(gg:S->L):B:=hh gg
def cz(x:Str):Prop:=x="&"\/x="|"\/x=">"\/x="="
def dO(x:Str):Int:=if x="&" then 4 else if x="|" then 3 else if x=">" then 2 else 1
def fM(e l:Str):Bool:=if e="(" then false else if e="~" then true else if e=l then !decide (l=">")else decide (dO l<dO e)
abbrev YA:List (Key×V):=[(.inr "&",.int 4),(.inr "|",.int 3),(.inr ">",.int 2),(.inr "=",.int 1)]
abbrev _0:List (Key×V):=[(.inr "&",.str "and"),(.inr "|",.str "or"),(.inr ">",.str "then"),(.inr "=",.str "same")]
theorem By(h:cz x):b7 YA (.inr x)=some (.int (dO x)):=by
 rcases h with rfl|rfl|rfl|rfl<;>decide +kernel
theorem Pb(h:¬cz x):b7 YA (.inr x)=none:=by
 have h1:¬x="&":=fun z=>h (.inl z)
 have h2:¬x="|":=fun z=>h (.inr (.inl z))
 have h3:¬x=">":=fun z=>h (.inr (.inr (.inl z)))
 have h4:¬x="=":=fun z=>h (.inr (.inr (.inr z)))
 simp[b7,List.find?,ba h1,ba h2,ba h3,ba h4,fun z=>h1 (Eq.symm z),fun z=>h2 (Eq.symm z),fun z=>h3 (Eq.symm z),fun z=>h4 (Eq.symm z)]
inductive CD(vs:List V)(H:Hp)(Q:VK)(E:XK):Prop
 |mk(e l:_)(_:vs=[.str e,.str l])(_:(e="("\/e="~"\/cz e))(_:cz l)(_:Q (.bl (fM e l)) H)
theorem Hz(T:Txt P w K mg t):FM P w base T.q47 1 CD:=by
 refine T.q47.F.eK (N:=["earlier","later"]) eo ?_;rintro nd _ _ _ _ H vs Q E hr ⟨e,l,rfl,he,hl,k⟩;have hu:=fX hr
 refine⟨_,(ao (aR (aF aU (af 0) az (aH _))
    (aq (aA eU))
    aO)
   (ao (aR (aF aU (af 0) az (aH _))
    (aq (aA eU))
    aO)
   (ao (aR (aF aU (af 0) (af 1) (aH _))
    (aq (aA (b8 gZ (af 1) az (aH _))))
    aO)
   (aq (aA (b8 mW (jh T.zr hu (fH (v:=.ref t.zr) T.zK rfl) (af 0) (fun _ _=>rfl)) (jh T.zr hu (fH (v:=.ref t.zr) T.zK rfl) (af 1) (fun _ _=>rfl)) (aH _))))))),?_⟩
 unfold fM at k;refine⟨_,Z,Z,_,Z,?_⟩;refine aQ (fun e1=>?_) (fun e1=>?_)
 ·have e1:e="(":=V.str.inj (en e1)
  rw[b6 e1]at k;exact k
 have e1:¬e="(":=fun z=>e1 (cS (bP V.str z))
 rw[bq e1]at k;refine⟨_,Z,Z,_,Z,?_⟩;refine aQ (fun e2=>?_) (fun e2=>?_)
 ·have e2:e="~":=V.str.inj (en e2)
  rw[b6 e2]at k;exact k
 have e2:¬e="~":=fun z=>e2 (cS (bP V.str z))
 rw[bq e2]at k;have he:cz e:=by rcases he with z|z|z;exact absurd z e1;exact absurd z e2;exact z
 refine⟨_,Z,_,Z,Z,_,Z,?_⟩;refine aQ (fun e3=>?_) (fun e3=>?_)
 ·have e3:e=l:=V.str.inj (en e3)
  rw[b6 e3]at k;refine⟨_,Z,Z,?_⟩
  have q:(!decide (V.str l=V.str (Str.ofString ">"))) = !decide (l=">"):=by
   by_cases z:l=">"
   ·simp[z]
   simp[z]
  rw[q];exact k
 have e3:¬e=l:=fun z=>e3 (cS (bP V.str z))
 rw[bq e3]at k;refine⟨_,Z,.inr e,_,Z,Z,By he,_,Z,.inr l,_,Z,Z,By hl,_,_,Z,Z,?_⟩;exact k
def cV(c:Nat):Bool:=decide (97<=c)&&decide (c<=122)
def isName(x:Str):Bool:=(decide (1<=(x.length:Int))&&decide ((x.length:Int)<=8))&&x.cps.toList.all cV
def Small(x:Str):Prop:=x.length<=1000/\∀ c∈x.cps.toList,c<16^8
inductive yA(vs:List V)(H:Hp)(Q:VK)(E:XK):Prop
 |mk(c:_)(_:vs=[.str ⟨#[c]⟩])(_:Q (.bl (cV c)) H)
inductive y4(vs:List V)(H:Hp)(Q:VK)(E:XK):Prop
 |mk(x:_)(_:vs=[.str x])(_:x.length<=sizeLine)(_:∀ H',(∀ b o,H b=some o->H' b=some o)->Q (.bl (isName x)) H')
theorem sr(a b:Nat):decide (([a]:List Nat) < [b])=decide (a<b):=by
 have e:(([a]:List Nat) < [b])↔a<b:=by simp[List.cons_lt_cons_iff]
 simp[e]
theorem Qp(c:Nat):(!decide ((⟨#[c]⟩:Str).cps.toList<(Str.ofString "a").cps.toList))=decide (97<=c):=by
 show(!decide ([c] < [97]))=_;rw[sr]
 by_cases h:97<=c
 ·simp[h]
 simp[h];exact oo
theorem Qq(c:Nat):(!decide ((Str.ofString "z").cps.toList<(⟨#[c]⟩:Str).cps.toList))=decide (c<=122):=by
 show(!decide ([122] < [c]))=_;rw[sr]
 by_cases h:c<=122
 ·simp[h]
 simp[h];exact oo
theorem uR(T:Txt P w K mg t):FM P w base T.q0 1 yA:=by
 refine T.q0.F.eK (N:=["sign"]) eo ?_;rintro nd _ _ _ _ _ _ _ _ hr ⟨c,rfl,k⟩;refine⟨_,(aq (aA (qG lD lD az (af 0) az))),?_⟩;refine⟨_,Z,_,_,Z,Z,?_⟩;rw[Qp];refine⟨_,Z,?_⟩
 by_cases h1:97<=c
 ·rw[b6 (cS h1)]
  refine⟨_,_,Z,Z,?_⟩;rw[Qq];have e:cV c=decide (c<=122):=by simp[cV,h1]
  rw[<- e];exact k
 rw[bq (by simpa using h1)];have e:cV c=false:=by simp[cV,h1]
 rw[e]at k;exact k
theorem pF(T:Txt P w K mg t):FM P w base T.q1 2 y4:=by
 refine T.q1.F.eK (N:=["text"]) eo ?_;rintro nd _ _ _ _ H vs Q E hr ⟨x,rfl,hx,k⟩;refine⟨_,(aq (aA (oh (qG pR pR ak (aZ kh T.zd Bt.len (aa (af 0) aj)) (fH (v:=.int 8) T.ZS ⟨_,Z⟩)) (lZ (aZ (lC rfl) T.zF Bt.all (aa (bW rfl ["sign"] [none] (wK (af 0)) kr (fun _ _ _ _ _ _=>(g6 0 (kF (l:=["sign"])))) (fun _ _ _ _ _ _=>cM) (fun _ _ _ _ _ _=>(dn T.q0 (uR T) hr aM (aa (af 0) aj)))) aj)))))),?_⟩;refine⟨_,Z,_,Z,hx,_,_,Z,Z,_,Z,?_⟩;have fin:isName x=false->Q (.bl false) H:=fun e=>by have:=k H (fun _ _ z=>z);rw[e]at this;exact this
 refine aQ (fun e1=>?_) (fun e1=>⟨_,rfl,fin (by simp at e1;simp[isName];exact oo)⟩);have e1:=en e1;refine⟨_,_,Z,Z,_,Z,?_⟩;refine aQ (fun e2=>?_) (fun e2=>fin (by simp at e2;simp[isName];exact oo));have e2:=en e2;refine⟨_,Z,x,Z,oN (fun c=>.bl (cV c)) hx (fun c R _ hR=>⟨True.intro,_,Z,c,Z,hR⟩) fun p hp=>?_⟩;refine⟨p,x.cps.toList.map cV,Z,?_,?_⟩
 ·refine SqL.of ?_
  rw[au,eD];rfl
 have:=k (upd H p (.lst (x.cps.toList.map fun c=>V.bl (cV c)))) (fun b o q=>by rw[aG (fun z=>by rw[z,hp]at q;cases q)];exact q);have e:isName x=(x.cps.toList.map cV).all id:=by simp[isName,e1,e2]
 rw[e]at this;exact this
inductive Ct(t:ku)(vs:List V)(H:Hp)(Q:VK)(E:XK):Prop
 |mk(x:_)(_:vs=[.str x])(_:Small x)(_:((x="1"/\∀ p,H p=none->Q (.ref p) (upd H p (.tup [.str "yes"])))\/(x="0"/\∀ p,H p=none->Q (.ref p) (upd H p (.tup [.str "no"])))\/(¬x="1"/\¬x="0"/\∀ H',(∀ b o,H b=some o->H' b=some o)->if isName x=true then ∀ p,H' p=none->Q (.ref p) (upd H' p (.tup [.str "name",.str x]))else E (.ref t.zj) none H')))
theorem HD(T:Txt P w K mg t):FM P w base T.q46 3 (Ct t):=by
 refine T.q46.F.eK (N:=["word"]) eo ?_;rintro nd _ _ _ _ H _ Q E hr ⟨x,rfl,hx,k⟩
 refine⟨_,(ao (aR (aF aU (af 0) az (aH _))
    (aq (aA (bj (aa az aj))))
    aO)
   (ao (aR (aF aU (af 0) az (aH _))
    (aq (aA (bj (aa az aj))))
    aO)
   (ao (aR (cP (bV (dn T.q1 (pF T) hr aM (aa (af 0) aj))))
    (aq (dF eQ rfl T.zu T.zy (aa (wM az (tM (af 0))) aj)))
    aO)
   (aq (aA (bj (aa az (aa (af 0) aj)))))))),?_⟩
 refine⟨_,Z,Z,_,Z,?_⟩;refine aQ (fun e=>?_) (fun e=>?_)
 ·have e:x="1":=V.str.inj (en e)
  rcases k with⟨_,k⟩|⟨e',_⟩|⟨e',_⟩
  ·exact⟨so,fun p hp=>k p hp⟩
  ·rw[e]at e';exact absurd e' dk
  exact absurd e e'
 have e1:¬x="1":=fun z=>e (cS (bP V.str z))
 refine⟨_,Z,Z,_,Z,?_⟩;refine aQ (fun e=>?_) (fun e=>?_)
 ·have e:x="0":=V.str.inj (en e)
  rcases k with⟨e',_⟩|⟨_,k⟩|⟨_,e',_⟩
  ·exact absurd e' e1
  ·exact⟨so,fun p hp=>k p hp⟩
  exact absurd e e'
 have e0:¬x="0":=fun z=>e (cS (bP V.str z))
 have k:∀ H',(∀ b o,H b=some o->H' b=some o)->if isName x=true then ∀ p,H' p=none->Q (.ref p) (upd H' p (.tup [.str "name",.str x]))else E (.ref t.zj) none H':=by
  rcases k with⟨e',_⟩|⟨e',_⟩|⟨_,_,k⟩
  ·exact absurd e' e1
  ·exact absurd e' e0
  exact k
 refine⟨_,Z,x,Z,fA hx.1 odz,fun H' s'=>?_⟩;have k':=k H' s';refine⟨_,Z,?_⟩;cases hn:isName x with
 | true =>
  rw[hn,b6 rfl]at k';exact⟨_,Z,xB,fun p hp=>k' p hp⟩
 | false =>
  rw[hn,bq odz]at k';rw[b6 (show(!false)=true from rfl)];refine⟨_,Z,dk,_,Z,x,Z,repr_fits hx.2 hx.1,_,Z,?_,so,k'⟩;have e1:=PySem.StrLaws.reprText_len x hx.2;have e2:=hx.1;rw[gE];have e3:(Str.ofString "no part of a sentence begins with ").length=34:=by decide +kernel
  rw[e3];unfold sizeLine;exact oo
def dB(st:List Str×Str)(c:Nat):List Str×Str :=
 if cV c=true then(st.1,st.2++⟨#[c]⟩)else
  (if c=32 then(if st.2="" then st.1 else st.1++[st.2])else(if st.2="" then st.1 else st.1++[st.2])++[⟨#[c]⟩],"")
def fK(l:List Nat):List Str×Str:=l.foldl dB ([],"")
theorem jQ(l:List Nat)(c:Nat):fK (l++[c])=dB (fK l) c:=by simp[fK]
def jF(x:Str):List Str:=(fK (x.cps.toList++[32])).1
theorem Ek{st:List Str×Str}(h1:st.1.length<=2*n)(h2:st.2.length<=n):(dB st c).1.length<=2*(n+1)/\(dB st c).2.length<=n+1:=by
 unfold dB;have e0:(Str.ofString "").length=0:=rfl
 split
 ·refine⟨by show st.1.length<=_;exact oo,?_⟩
  show(st.2++⟨#[c]⟩:Str).length <= _;rw[gE];have:(⟨#[c]⟩:Str).length=1:=rfl;exact oo
 refine⟨?_,?_⟩
 ·show(if c=32 then _ else _:List Str).length <= _
  split<;>split<;>first|omega | (simp only[aS,bp,nN];exact oo)
 show(Str.ofString "").length <= _;rw[e0];exact mf _
theorem lH:∀(k:Nat)(l:List Nat),l.length=k->(fK l).1.length<=2*l.length/\(fK l).2.length<=l.length
 | 0,l,h=>by
  have:l=[]:=List.length_eq_zero_iff.mp h;subst this;exact⟨qnr _,qnr _⟩
 | k+1,l,h=>by
  have g7:l≠[]:=fun z=>by rw[z]at h;cases h
  obtain⟨l',c,rfl⟩:∃ l' c,l=l'++[c]:=⟨l.dropLast,l.getLast g7,(Bn g7).symm⟩
  rw[jQ];have hk:l'.length=k:=by simpa using h
  obtain⟨h1,h2⟩:=lH k l' hk;have:=Ek (c:=c) h1 h2
  simpa using this
inductive Co(vs:List V)(H:Hp)(Q:VK)(E:XK):Prop
 |mk(x:_)(_:vs=[.str x])(_:x.length<=1000)(_:∀ p,H p=none->Q (.ref p) (upd H p (.lst ((jF x).map V.str))))
theorem HF(T:Txt P w K mg t):FM P w base T.q45 2 Co:=by
 refine T.q45.F.eK (N:=["text","words","name","sign"]) eo ?_;rintro nd _ _ _ _ H _ _ _ hr ⟨x,rfl,hx,k⟩
 refine ⟨_,(ao (eT 1 nd (bz aj))
   (ao (eT 2 nd az)
   (ao (dX i7 rfl (wK (aD bh (af 0) az)) (g6 3 nd)
    (ao (aR (bV (dn T.q0 (uR T) hr aM (aa (af 3) aj)))
     (ao (_L 2 nd (af 3) yc)
     (aq xZ))
     aO)
    (ao (aR (aF gZ (af 2) az (aH _))
     (ao (bA (bY PySem.F.plainAttrs_list PySem.F.slot_list_append PySem.F.type_list_append cL (af 1) (aa (af 2) aj)))
     (aq (eT 2 nd az)))
     aO)
    (aq (aR (aF gZ (af 3) az (aH _))
     (aq (bA (bY PySem.F.plainAttrs_list PySem.F.slot_list_append PySem.F.type_list_append cL (af 1) (aa (af 3) aj))))
     aO)))))
   (aq (aA (af 1)))))),?_⟩
 have hl:x.length+(Str.ofString " ").length <= sizeLine:=by
  have:(Str.ofString " ").length=1:=rfl;unfold sizeLine;exact oo
 refine⟨mf _,fun p hp=>?_⟩
 refine⟨_,rfl,_,_,rfl,rfl,hl,_,rfl,Kf (x:=x++Str.ofString " ") (fun i σ H2=>∃ sg,σ=[some (.str x),some (.ref p),some (.str (fK ((x++Str.ofString " ").cps.toList.take i)).2),sg]/\H2=upd H p (.lst ((fK ((x++Str.ofString " ").cps.toList.take i)).1.map V.str)))
  ⟨none,rfl,rfl⟩ ?_ ?_⟩
 ·rintro i c σ H2 hi ⟨sg,rfl,rfl⟩
  have K':(x++Str.ofString " ").cps.toList[i]?=some c:=by simpa using hi
  have e1:fK ((x++Str.ofString " ").cps.toList.take (i+1))=dB (fK ((x++Str.ofString " ").cps.toList.take i)) c:=by
   rw[pj,K'];exact jQ _ _
  have hb:=lH _ ((x++Str.ofString " ").cps.toList.take i) rfl
  have hn:((x++Str.ofString " ").cps.toList.take i).length <= 1001:=by
   have q1:(x++Str.ofString " ").length=x.length+1:=gE _ _;have q2:(x++Str.ofString " ").cps.toList.length=(x++Str.ofString " ").length:=by simp[Str.length]
   rw[bE];exact oo
  rw[e1];generalize fK ((x++Str.ofString " ").cps.toList.take i)=st at hb ⊢;obtain⟨ws,nm⟩:=st;obtain⟨Ee,BY⟩:=hb;dsimp only at Ee BY ⊢;refine⟨_,Z,c,Z,_,Z,?_⟩;unfold dB;cases hL:cV c with
  | true =>
   rw[b6 rfl];refine⟨_,Z,_,Z,_,_,Z,Z,?_,⟨_,Z,Z⟩⟩;have:(⟨#[c]⟩:Str).length=1:=rfl;unfold sizeLine;exact oo
  | false =>
   rw[bq odz]
   have hc:(⟨#[c]⟩:Str)=Str.ofString " "↔c=32:=by
    constructor
    ·intro z
     have z:=bP (fun y:Str=>y.cps.toList) z;have z:[c]=[32]:=z
     simpa using z
    rintro rfl;rfl
   refine⟨_,Z,Z,_,Z,?_⟩;refine aQ (fun e=>?_) (fun e=>?_)
   ·have e:¬nm="":=by
     intro z;subst z;simp at e
    refine⟨_,Z,.inl ⟨Z,_,SqL.of au⟩,_,Z,p,_,_,Z,Z,au,(by unfold sizeLine;simp;exact oo),?_⟩;refine⟨_,Z,Z,_,Z,?_⟩;refine aQ (fun e2=>?_) (fun e2=>?_)
    ·have e2:¬c=32:=by
      intro z;have:=hc.mpr z;rw[this]at e2;simp at e2
     refine⟨_,Z,.inl ⟨Z,_,SqL.of au⟩,_,Z,p,_,_,Z,Z,au,(by unfold sizeLine;simp;exact oo),?_⟩;refine⟨_,Z,?_⟩;rw[pQ,pQ];simp[e,e2]
    have e2:c=32:=by
     apply dP;intro z;exact e2 (by simp[show ¬(⟨#[c]⟩:Str)=Str.ofString " " from fun y=>z (hc.mp y)])
    refine⟨_,Z,?_⟩;rw[pQ];simp[e,e2]
   have e:nm="":=by
    apply dP;intro z;exact e (by simp[z])
   refine⟨_,Z,Z,_,Z,?_⟩;refine aQ (fun e2=>?_) (fun e2=>?_)
   ·have e2:¬c=32:=by
     intro z;have:=hc.mpr z;rw[this]at e2;simp at e2
    refine⟨_,Z,.inl ⟨Z,_,SqL.of au⟩,_,Z,p,_,_,Z,Z,au,(by unfold sizeLine;simp;exact oo),?_⟩;refine⟨_,by rw[e];rfl,?_⟩;rw[pQ];simp[e,e2]
   have e2:c=32:=by
    apply dP;intro z;exact e2 (by simp[show ¬(⟨#[c]⟩:Str)=Str.ofString " " from fun y=>z (hc.mp y)])
   refine⟨_,by rw[e];rfl,?_⟩;simp[e,e2]
 rintro σ H2 ⟨sg,rfl,rfl⟩
 have e:(x++Str.ofString " ").cps.toList.take (x++Str.ofString " ").cps.size=x.cps.toList++[32]:=by
  rw[fe oz];show(x.cps ++ #[32]).toList=_;simp
 rw[e];exact⟨_,Z,k p hp⟩
theorem Pg:¬(("trees":Str)="signs"):=by decide +kernel
def fl(tl sl:Addr):List (Str×V):=bc "signs" (.ref sl) (bc "trees" (.ref tl) [])
theorem jn(tl sl:Addr):(fl tl sl).lookup ("trees":Str)=some (.ref tl):=by
 unfold fl;rw[bC,bq Pg,bC,b6 rfl]
theorem dI(tl sl:Addr):(fl tl sl).lookup ("signs":Str)=some (.ref sl):=by
 unfold fl;rw[bC,b6 rfl]
theorem lJ(tl sl:Addr)  (h1:¬m="signs") (h2:¬m="trees"):(fl tl sl).lookup m=none:=by
 unfold fl;rw[bC,bq h1,bC,bq h2]
 all_goals rfl
structure l_(C:Addr)(H:Hp)(p dx tl sl:Addr)(ts:List Tr)(ss:List Str):Prop where
 ob:H p=some (.ins C dx (fl tl sl))
 ne:tl≠sl
 tr:∃ us,H tl=some (.lst us)/\Paired (c8 H) us.reverse ts
 sg:H sl=some (.lst (ss.reverse.map V.str))
def gu(tl sl:Addr)(H H':Hp):Prop:=∀ b o,H b=some o->b≠tl->b≠sl->H' b=some o
inductive CB(C:Addr)(vs:List V)(H:Hp)(Q:VK)(E:XK):Prop
 |mk(p dx:_)(_:vs=[.ref p])(_:H p=some (.ins C dx []))(_:∀ tl sl H',H tl=none->H sl=none->l_ C H' p dx tl sl [] []->(∀ b o,H b=some o->b≠p->H' b=some o)->Q .non H')
def pG(x:Str):Op:=if x="&" then .and else if x="|" then .or else if x=">" then .thn else .same
theorem Ph(h:cz x):b7 _0 (.inr x)=some (.str (pG x).str):=by
 rcases h with rfl|rfl|rfl|rfl<;>decide +kernel
def eG(s:Str):List Tr->List Tr
 | r::rest=>if s="~" then .not r::rest else match rest with
  |l::n9=>.bin (pG s) l r::n9
  |[]=>[r]
 |[]=>[]
inductive GL(C:Addr)(vs:List V)(H:Hp)(Q:VK)(E:XK):Prop
 |mk(p dx tl sl ts s ss:_)(_:vs=[.ref p])(_:l_ C H p dx tl sl ts (s::ss))(_:((s="~"/\1<=ts.length)\/(cz s/\2<=ts.length)))(_:ts.length<=5000)(_:∀ H',l_ C H' p dx tl sl (eG s ts) ss->gu tl sl H H'->Q .non H')
theorem HH(T:Txt P w K mg t):Fm P w mg base T.q48 1 (CB t.za):=by
 refine T.q48.F.eK (N:=["self"]) eo ?_;rintro nd _ _ _ _ _ _ _ _ hr ⟨p,dx,rfl,hp,k⟩
 refine⟨_,(ao (iQ (af 0) (bz aj) rfl)
   (aq (iQ (af 0) (bz aj) rfl))),?_⟩
 refine⟨mf _,fun tl htl=>?_⟩;have n1:p≠tl:=aK hp htl;refine⟨_,Z,p,t.za,dx,_,Z,by rw[aG n1];exact hp,T.ze,T.zw,(by show 0<1000;decide),?_⟩;refine⟨mf _,fun sl hsl=>?_⟩;have n2:p≠sl:=aK au hsl
 have n3:tl≠sl:=by
  intro z;subst z;rw[aG (ba n1),au]at hsl;cases hsl
 refine⟨_,Z,p,t.za,dx,_,Z,by rw[aG n2,au],T.ze,T.zl,(by show 1<1000;decide),?_⟩;refine k tl sl _ htl ?_ ⟨au,n3,⟨[],?_,.nil⟩,?_⟩ fun b o e hb=>?_
 ·rw[aG (ba n2),aG (ba n3)]at hsl;exact hsl
 ·rw[aG (ba n1),aG n3,aG (ba n1),au]
 ·rw[aG (ba n2),au];rfl
 have b1:b≠tl:=aK e htl;have b2:b≠sl:=aK (by rw[aG hb,aG b1];exact e) hsl;rw[aG hb,aG b2,aG hb,aG b1];exact e
theorem z7(T:Txt P w K mg t):Fm P w mg base T.q51 1 (GL t.za):=by
 refine T.q51.F.eK (N:=["self","sign","right","left"]) eo ?_;rintro nd _ _ _ s H _ _ _ hr ⟨p,dx,tl,sl,ts,sg,ss,rfl,U,hs,hl,k⟩;have hu:=fX hr
 refine⟨_,(ao (eT 1 nd (mF PySem.F.plainAttrs_list PySem.F.slot_list_pop PySem.F.type_list_pop oH (bM (af 0) rfl)))
   (ao (eT 2 nd (mF PySem.F.plainAttrs_list PySem.F.slot_list_pop PySem.F.type_list_pop oH (bM (af 0) rfl)))
   (ao (aR (aF aU (af 1) az (aH _))
    (ao (bA (bY PySem.F.plainAttrs_list PySem.F.slot_list_append PySem.F.type_list_append cL (bM (af 0) rfl) (aa (bj (aa az (aa (af 2) aj))) aj)))
    (aq JT))
    aO)
   (ao (eT 3 nd (mF PySem.F.plainAttrs_list PySem.F.slot_list_pop PySem.F.type_list_pop oH (bM (af 0) rfl)))
   (aq (bA (bY PySem.F.plainAttrs_list PySem.F.slot_list_append PySem.F.type_list_append cL (bM (af 0) rfl) (aa (bj (aa (jh T.zD hu (fH (v:=.ref t.zD) T.ZT rfl) (af 1) (fun _ _=>rfl)) (aa (af 3) (aa (af 2) aj)))) aj)))))))),?_⟩
 obtain⟨ob,ne,⟨us,htl,hpu⟩,hsl⟩:=U;have RS:H sl=some (.lst (ss.reverse.map V.str++[.str sg])):=by rw[hsl];simp
 have sq:p≠sl:=bF ob hsl;have DU:p≠tl:=bF ob htl
 obtain⟨r,rest,rfl⟩:∃ r rest,ts=r::rest:=by
  cases ts with
  |nil=>rcases hs with⟨_,z⟩|⟨_,z⟩<;>simp at z
  |cons r rest=>exact⟨r,rest,Z⟩
 obtain⟨ur,vr,H_,wq,hpr⟩:∃ ur vr,us=vr.reverse++[ur]/\c8 H ur r/\Paired (c8 H) vr rest:=by
  generalize hq:us.reverse=q at hpu;cases hpu with
  |cons h1 h2=>exact⟨_,_,by rw[<- dr us,hq];simp,h1,h2⟩
 subst H_;refine⟨_,Z,p,t.za,dx,_,_,Z,ob,T.ze,T.zl,dI _ _,.inl ⟨Z,_,SqL.of hsl⟩,sl,_,.str sg,Z,Z,RS,oz,?_⟩;rw[gy];generalize VT:upd H sl (.lst (ss.reverse.map V.str))=H1;have o1:∀ b,b≠sl->H1 b=H b:=fun b hb=>by rw[<- VT,aG hb]
 refine⟨_,Z,p,t.za,dx,_,_,Z,(o1 p sq).trans ob,T.ze,T.zw,jn _ _,.inl ⟨Z,_,SqL.of ((o1 tl ne).trans htl)⟩,tl,_,ur,Z,Z,(o1 tl ne).trans htl,oz,?_⟩;rw[gy];generalize IZ:upd H1 tl (.lst vr.reverse)=H2;have o2:∀ b,b≠sl->b≠tl->H2 b=H b:=fun b hb tw=>by rw[<- IZ,aG tw,o1 b hb]
 have pk:H2 tl=some (.lst vr.reverse):=by rw[<- IZ,au]
 have AG:H2 sl=some (.lst (ss.reverse.map V.str)):=by rw[<- IZ,aG (ba ne),<- VT,au]
 have Rc:gs H H2:=fun b xs e=>(o2 b (bF e hsl) (bF e htl)).trans e
 refine⟨_,Z,Z,_,Z,?_⟩;refine aQ (fun e=>?_) (fun e=>?_)
 ·have e:sg="~":=V.str.inj (en e)
  refine⟨_,Z,p,t.za,dx,_,_,Z,(o2 p sq DU).trans ob,T.ze,T.zw,jn _ _,.inl ⟨Z,_,SqL.of pk⟩,_,Z,xB,fun q hq=>?_⟩;have n1:tl≠q:=aK pk hq;have n2:sl≠q:=aK AG hq;refine⟨tl,_,_,Z,Z,by rw[aG n1];exact pk,?_,?_⟩
  ·have:=bg hpr
   simp at hl ⊢;unfold sizeLine;exact oo
  have up:∀ b o,H2 b=some o->b≠tl->upd (upd H2 q (.tup [.str "not",ur])) tl (.lst (vr.reverse++[.ref q])) b=some o:=fun b o z hb=>by
   rw[aG hb,aG (aK z hq)];exact z
  have Cb:gs H (upd (upd H2 q (.tup [.str "not",ur])) tl (.lst (vr.reverse++[.ref q]))):=fun b xs z=>up b _ (Rc b xs z) (bF z htl)
  refine k _ ⟨up p _ ((o2 p sq DU).trans ob) DU,ne,⟨_,au,?_⟩,up sl _ AG (ba ne)⟩ fun b o z h1 h2=>up b o ((o2 b h2 h1).trans z) h1
  rw[kl];simp only[eG,e,i_,dr];refine .cons (.not ?_ (wq.mono Cb)) (cO Cb hpr);rw[aG (ba n1),au]
 have e:¬sg="~":=fun z=>e (cS (bP V.str z))
 obtain⟨hop,h2⟩:cz sg/\2<=(r::rest).length:=by rcases hs with⟨z,_⟩|z;exact absurd z e;exact z
 obtain⟨l,n9,rfl⟩:∃ l n9,rest=l::n9:=by
  cases rest with
  |nil=>simp at h2
  |cons l n9=>exact⟨l,n9,Z⟩
 obtain⟨ul,EU,rfl,rL,hpr⟩:∃ ul EU,vr=ul::EU/\c8 H ul l/\Paired (c8 H) EU n9:=by
  cases hpr with
  |cons h1 h2=>exact⟨_,_,Z,h1,h2⟩
 have MA:H2 tl=some (.lst (EU.reverse++[ul])):=by rw[pk];simp
 refine⟨_,Z,p,t.za,dx,_,_,Z,(o2 p sq DU).trans ob,T.ze,T.zw,jn _ _,.inl ⟨Z,_,SqL.of pk⟩,tl,_,ul,Z,Z,MA,oz,?_⟩;rw[gy];generalize SO:upd H2 tl (.lst EU.reverse)=H3;have o3:∀ b,b≠sl->b≠tl->H3 b=H b:=fun b hb tw=>by rw[<- SO,aG tw,o2 b hb tw]
 have Iq:H3 tl=some (.lst EU.reverse):=by rw[<- SO,au]
 have MD:H3 sl=some (.lst (ss.reverse.map V.str)):=by rw[<- SO,aG (ba ne),AG]
 have Cb:gs H H3:=fun b xs e=>(o3 b (bF e hsl) (bF e htl)).trans e
 refine⟨_,Z,p,t.za,dx,_,_,Z,(o3 p sq DU).trans ob,T.ze,T.zw,jn _ _,.inl ⟨Z,_,SqL.of Iq⟩,_,Z,.inr sg,_,Z,Z,Ph hop,_,Z,_,Z,(by show 3<=sizeLine;decide),fun q hq=>?_⟩;have n1:tl≠q:=aK Iq hq;have n2:sl≠q:=aK MD hq;refine⟨tl,_,_,Z,Z,by rw[aG n1];exact Iq,?_,?_⟩
 ·have:=bg hpr
  simp at hl ⊢;unfold sizeLine;exact oo
 have up:∀ b o,H3 b=some o->b≠tl->upd (upd H3 q (.tup [.str (pG sg).str,ul,ur])) tl (.lst (EU.reverse++[.ref q])) b=some o:=fun b o z hb=>by
  rw[aG hb,aG (aK z hq)];exact z
 have FU:gs H (upd (upd H3 q (.tup [.str (pG sg).str,ul,ur])) tl (.lst (EU.reverse++[.ref q]))):=fun b xs z=>up b _ (Cb b xs z) (bF z htl)
 refine k _ ⟨up p _ ((o3 p sq DU).trans ob) DU,ne,⟨_,au,?_⟩,up sl _ MD (ba ne)⟩ fun b o z h1 h2=>up b o ((o3 b h2 h1).trans z) h1
 rw[kl];simp only[eG,e,mM,dr];refine .cons (.bin ?_ (rL.mono FU) (wq.mono FU)) (cO FU hpr);rw[aG (ba n1),au]
def As(ss:List Str):Prop:=∀ s∈ss,s="("\/s="~"\/cz s
def nb(ss:List Str):Nat:=ss.countP fun s:Str=>!decide (s="(") && !decide (s="~")
def aY(c:Str->Bool):List Tr->List Str->List Tr×List Str
 |ts,[]=>(ts,[])
 |ts,s::ss=>if c s=true then aY c (eG s ts) ss else(ts,s::ss)
theorem lK{s:Str}(h:cz s):¬s="("/\¬s="~":=by
 rcases h with rfl|rfl|rfl|rfl<;>exact⟨dk,dk⟩
theorem wY(ss:List Str):nb ("~" :: ss)=nb ss:=by
 unfold nb;rw[fi];simp
theorem Jy{s:Str}(h:cz s)(ss:List Str):nb (s::ss)=nb ss+1:=by
 unfold nb;rw[fi];simp[(lK h).1,(lK h).2]
theorem Jz(ss:List Str):nb ("(" :: ss)=nb ss:=by
 unfold nb;rw[fi];simp
theorem jR{s:Str}   (ho:s="~"\/cz s) (h:ts.length=nb (s::ss)+1):((s="~"/\1<=ts.length)\/(cz s/\2<=ts.length))/\(eG s ts).length=nb ss+1:=by
 rcases ho with rfl|ho
 ·rw[wY]at h
  refine⟨.inl ⟨Z,oo⟩,?_⟩;cases ts with
  |nil=>simp at h
  |cons r rest=>simpa[eG]using h
 rw[Jy ho]at h;refine⟨.inr ⟨ho,oo⟩,?_⟩
 match ts,h with
 |r::l::rest,h=>simpa[eG,(lK ho).2]using h
theorem gu.trans{tl:Addr}(a:gu tl sl H H1)(b:gu tl sl H1 H2):gu tl sl H H2:=fun c o e h1 h2=>b c o (a c o e h1 h2) h1 h2
def bD(s:Str):Bool:=!decide (s="(")
inductive LV(C:Addr)(vs:List V)(H:Hp)(Q:VK)(E:XK):Prop
 |mk(p dx tl sl ts ss:_)(_:vs=[.ref p])(_:l_ C H p dx tl sl ts ss)(_:As ss)(_:ts.length=nb ss+1)(_:ts.length<=5000)(_:∀ H',l_ C H' p dx tl sl (aY bD ts ss).1 (aY bD ts ss).2 -> gu tl sl H H'->Q .non H')
theorem El(T:Txt P w K mg t):Fm P w mg base T.q52 2 (LV t.za):=by
 refine T.q52.F.eK (N:=["self"]) eo ?_;rintro nd _ _ _ s H vs Q E hr ⟨p,dx,tl,sl,ts,ss,rfl,U,hok,hc,hl,k⟩
 refine⟨_,(aq (j7 i7 (PW.pt (eV (ig (bM (af 0) rfl) (fun _=>rfl)) (dU (aF gZ (cy bB (bM (af 0) rfl) (mR j9 ak)) az (aH _)))))
    (aq (bA (jL (af 0) T.ze T.q51 (z7 T) hr aM))))),?_⟩
 refine⟨fun m σ H2=>∃ kC ss',m=ss'.length/\σ=[some (.ref p)]/\l_ t.za H2 p dx tl sl kC ss'/\gu tl sl H H2/\As ss'/\kC.length=nb ss'+1/\kC.length<=5000/\aY bD kC ss'=aY bD ts ss,
  ⟨_,ts,ss,rfl,rfl,U,fun _ _ z _ _=>z,hok,hc,hl,rfl⟩,?_⟩
 rintro m σ H2 ⟨kC,ss',rfl,rfl,U2,k2,w9,sv,ko,hf⟩;refine⟨_,Z,p,_,dx,_,_,Z,U2.ob,T.ze,T.zl,dI _ _,_,.inl ⟨_,SqL.of U2.sg,Z⟩,?_⟩;cases ss' with
 | nil =>
  refine bu ?_;refine bu ?_;rw[<- hf]at k;exact k H2 U2 k2
 | cons s1 qB =>
  have E7:H2 sl=some (.lst (qB.reverse.map V.str++[.str s1])):=by rw[U2.sg];simp
  rw[b6 oz];refine⟨_,Z,p,_,dx,_,_,Z,U2.ob,T.ze,T.zl,dI _ _,_,Z,sl,_,-1,.str s1,Z,Z,SqL.of E7,qI _ _,Z,_,Z,?_⟩;refine aQ (fun e=>?_) (fun e=>?_)
  ·have e:¬s1="(":=by intro z;subst z;simp at e
   have ho:s1="~"\/cz s1:=(w9 s1 oz).resolve_left e;obtain⟨q1,q2⟩:=jR ho sv;refine⟨fun σ' H'=>σ'=[some (.ref p)]/\l_ t.za H' p dx tl sl (eG s1 kC) qB/\gu tl sl H2 H',?_,?_⟩
   ·rintro σ' H' ⟨rfl,U3,k3⟩
    refine⟨qB.length,oz,eG s1 kC,qB,Z,Z,U3,k2.trans k3,fun s hs=>w9 s (by simp[hs]),q2,?_,?_⟩
    ·have h1:nb qB<=nb (s1::qB):=by unfold nb;rw[fi];exact oo
     exact oo
    rw[<- hf];simp[aY,bD,e]
   exact⟨_,Z,p,dx,_,Z,U2.ob,lJ _ _ dk dk,p,dx,tl,sl,kC,s1,qB,Z,U2,q1,ko,fun H' U3 k3=>⟨Z,U3,k3⟩⟩
  have e:s1="(":=by
   apply dP;intro z;exact e (by simp[z])
  have:aY bD kC (s1::qB)=(kC,s1::qB):=by simp[aY,bD,e]
  rw[<- hf,this]at k;exact k H2 U2 k2
inductive C_(t:ku)(vs:List V)(H:Hp)(Q:VK)(E:XK):Prop
 |mk(p dx tl sl ts ss:_)(_:vs=[.ref p])(_:l_ t.za H p dx tl sl ts ss)(_:As ss)(_:ts.length=nb ss+1)(_:ts.length<=5000)(_:(∀ H',(aY bD ts ss).2=[]->gu tl sl H H'->E (.ref t.zj) none H'))(_:(∀ H' s2 ss2,(aY bD ts ss).2=s2::ss2->l_ t.za H' p dx tl sl (aY bD ts ss).1 ss2->gu tl sl H H'->Q .non H'))
inductive yb(t:ku)(vs:List V)(H:Hp)(Q:VK)(E:XK):Prop
 |mk(p dx tl sl ts ss:_)(_:vs=[.ref p])(_:l_ t.za H p dx tl sl ts ss)(_:As ss)(_:ts.length=nb ss+1)(_:ts.length<=5000)(_:(∀ H',¬(aY bD ts ss).2=[]->gu tl sl H H'->E (.ref t.zj) none H'))(_:(∀ H' v r rest,(aY bD ts ss).2=[]->(aY bD ts ss).1=r::rest->c8 H' v r->gu tl sl H H'->Q v H'))
theorem yp(ho:As ss)(h:ts.length=nb ss+1):(aY bD ts ss).1.length=nb (aY bD ts ss).2+1:=by
 induction ss generalizing ts with
 |nil=>exact h
 | cons s ss ih =>
  unfold aY
  by_cases e:s="("
  ·simp[bD,e];rw[e]at h;exact h
  have sR:s="~"\/cz s:=(ho s oz).resolve_left e;have q:=jR sR h;simp only[bD,e,decide_false,Bool.not_false,i_];exact ih (fun x hx=>ho x (by simp[hx])) q.2
theorem HJ(T:Txt P w K mg t):Fm P w mg base T.q53 3 (C_ t):=by
 refine T.q53.F.eK (N:=["self"]) eo ?_;rintro nd _ _ _ _ _ _ _ _ hr ⟨p,dx,tl,sl,ts,ss,rfl,U,hok,hc,hl,kE,kQ⟩
 refine⟨_,(ao (bA (jL (af 0) T.ze T.q52 (El T) hr aM))
   (ao (aR (cP (ig (bM (af 0) rfl) (fun _=>rfl)))
    (aq (dF eQ rfl T.zu T.zy (aa az aj)))
    aO)
   (aq (bA (mF PySem.F.plainAttrs_list PySem.F.slot_list_pop PySem.F.type_list_pop oH (bM (af 0) rfl)))))),?_⟩
 refine⟨_,Z,p,dx,_,Z,U.ob,lJ _ _ dk dk,p,dx,tl,sl,ts,ss,Z,U,hok,hc,hl,fun H2 U2 k2=>?_⟩;generalize aY bD ts ss=f at *;obtain⟨ts2,ss2⟩:=f;refine⟨_,Z,p,_,dx,_,_,Z,U2.ob,T.ze,T.zl,dI _ _,_,.inl ⟨_,SqL.of U2.sg,Z⟩,?_⟩;cases ss2 with
 |nil=>exact bQ ⟨so,kE H2 rfl k2⟩
 | cons s2 ss3 =>
  rw[bq oz];have E7:H2 sl=some (.lst (ss3.reverse.map V.str++[.str s2])):=by rw[U2.sg];simp
  have sq:p≠sl:=bF U2.ob E7;refine⟨_,Z,p,_,dx,_,_,Z,U2.ob,T.ze,T.zl,dI _ _,.inl ⟨Z,_,SqL.of E7⟩,sl,_,.str s2,Z,Z,E7,oz,?_⟩;rw[gy];obtain⟨us,htl,hpu⟩:=U2.tr;have up:∀ b o,H2 b=some o->b≠sl->upd H2 sl (.lst (ss3.reverse.map V.str)) b=some o:=fun b o z hb=>by rw[aG hb];exact z
  have tup:gs H2 (upd H2 sl (.lst (ss3.reverse.map V.str))):=fun b xs z=>up b _ z (bF z E7)
  exact kQ _ s2 ss3 rfl ⟨up p _ U2.ob sq,U2.ne,⟨us,up tl _ htl U2.ne,cO tup hpu⟩,au⟩ (k2.trans fun b o z h1 h2=>up b o z h2)
theorem Em(T:Txt P w K mg t):Fm P w mg base T.q54 3 (yb t):=by
 refine T.q54.F.eK (N:=["self"]) eo ?_;rintro nd _ _ _ _ H vs Q E hr ⟨p,dx,tl,sl,ts,ss,rfl,U,hok,hc,hl,kE,kQ⟩
 refine⟨_,(ao (bA (jL (af 0) T.ze T.q52 (El T) hr aM))
   (ao (aR (ig (bM (af 0) rfl) (fun _=>rfl))
    (aq (dF eQ rfl T.zu T.zy (aa az aj)))
    aO)
   (aq (aA (mF PySem.F.plainAttrs_list PySem.F.slot_list_pop PySem.F.type_list_pop oH (bM (af 0) rfl)))))),?_⟩
 have sv:=yp hok hc;refine⟨_,Z,p,dx,_,Z,U.ob,lJ _ _ dk dk,p,dx,tl,sl,ts,ss,Z,U,hok,hc,hl,fun H2 U2 k2=>?_⟩;generalize aY bD ts ss=f at *;obtain⟨ts2,ss2⟩:=f;refine⟨_,Z,p,_,dx,_,_,Z,U2.ob,T.ze,T.zl,dI _ _,_,.inl ⟨_,SqL.of U2.sg,Z⟩,?_⟩;cases ss2 with
 | cons s2 ss3 =>
  rw[b6 oz];exact⟨so,kE H2 oz k2⟩
 | nil =>
  refine bu ?_;obtain⟨us,htl,hpu⟩:=U2.tr;have Ll:ts2.length=1:=sv
  obtain⟨r,rest,rfl⟩:∃ r rest,ts2=r::rest:=by
   cases ts2 with
   |nil=>simp at Ll
   |cons r rest=>exact⟨r,rest,Z⟩
  obtain⟨ur,vr,rfl,wq,_⟩:∃(ur:V)(vr:List V),us=vr.reverse++[ur]/\c8 H2 ur r/\Paired (c8 H2) vr rest:=by
   have hpu':Paired (c8 H2) us.reverse (r::rest):=hpu;generalize hq:us.reverse=q at hpu';cases hpu' with
   |cons h1 h2=>exact⟨_,_,by rw[<- dr us,hq];simp,h1,h2⟩
  refine⟨_,Z,p,_,dx,_,_,Z,U2.ob,T.ze,T.zw,jn _ _,.inl ⟨Z,_,SqL.of htl⟩,tl,_,ur,Z,Z,htl,oz,?_⟩;rw[gy];have up:∀ b o,H2 b=some o->b≠tl->upd H2 tl (.lst vr.reverse) b=some o:=fun b o z hb=>by rw[aG hb];exact z
  have tup:gs H2 (upd H2 tl (.lst vr.reverse)):=fun b xs z=>up b _ z (bF z htl)
  exact kQ _ ur r rest rfl rfl (wq.mono tup) (k2.trans fun b o z h1 h2=>up b o z h1)
inductive DC(t:ku)(vs:List V)(H:Hp)(Q:VK)(E:XK):Prop
 |mk(p dx tl sl ts ss x:_)(_:vs=[.ref p,.str x])(_:l_ t.za H p dx tl sl ts ss)(_:Small x)(_:ts.length<=5000)(_:ss.length<=5000)(_:(if x="~"\/x="(" then ∀ H',l_ t.za H' p dx tl sl ts (x::ss)->gu tl sl H H'->Q (.bl true) H' else if x="1" then ∀ H',l_ t.za H' p dx tl sl (.yes::ts) ss->gu tl sl H H'->Q (.bl false) H' else if x="0" then ∀ H',l_ t.za H' p dx tl sl (.no::ts) ss->gu tl sl H H'->Q (.bl false) H' else if isName x=true then ∀ H',l_ t.za H' p dx tl sl (.nm x::ts) ss->gu tl sl H H'->Q (.bl false) H' else ∀ H',gu tl sl H H'->E (.ref t.zj) none H'))
theorem l_.sign{p tl:Addr}(U:l_ C H p dx tl sl ts ss)(x:Str):l_ C (upd H sl (.lst (ss.reverse.map V.str++[.str x]))) p dx tl sl ts (x::ss)/\gu tl sl H (upd H sl (.lst (ss.reverse.map V.str++[.str x]))):=by
 obtain⟨us,htl,hpu⟩:=U.tr;have sq:p≠sl:=bF U.ob U.sg;have up:∀ b o,H b=some o->b≠sl->upd H sl (.lst (ss.reverse.map V.str++[.str x])) b=some o:=fun b o z hb=>by rw[aG hb];exact z
 have tup:gs H (upd H sl (.lst (ss.reverse.map V.str++[.str x]))):=fun b xs z=>up b _ z (bF z U.sg)
 exact⟨⟨up p _ U.ob sq,U.ne,⟨us,up tl _ htl U.ne,cO tup hpu⟩,by rw[au];simp⟩,fun b o z _ h2=>up b o z h2⟩
theorem l_.part{p tl:Addr}(U:l_ C H p dx tl sl ts ss)(s1:∀ b o,H b=some o->H1 b=some o){r:Tr}(hv:c8 H1 v r){us:List V}(H_:H tl=some (.lst us)): l_ C (upd H1 tl (.lst (us++[v]))) p dx tl sl (r::ts) ss/\gu tl sl H (upd H1 tl (.lst (us++[v]))):=by
 obtain⟨us',htl,hpu⟩:=U.tr;rw[H_]at htl;cases htl;have DU:p≠tl:=bF U.ob H_;have up:∀ b o,H1 b=some o->b≠tl->upd H1 tl (.lst (us++[v])) b=some o:=fun b o z hb=>by rw[aG hb];exact z
 have LJ:gs H1 (upd H1 tl (.lst (us++[v]))):=fun b xs z=>up b _ z (bF z (s1 _ _ H_))
 have tup:gs H (upd H1 tl (.lst (us++[v]))):=fun b xs z=>LJ b xs (s1 b _ z)
 refine⟨⟨up p _ (s1 _ _ U.ob) DU,U.ne,⟨_,au,?_⟩,up sl _ (s1 _ _ U.sg) (ba U.ne)⟩,fun b o z h1 _=>up b o (s1 b o z) h1⟩;rw[kl];exact .cons (hv.mono LJ) (cO tup hpu)
theorem HN(T:Txt P w K mg t):Fm P w mg base T.q49 4 (DC t):=by
 refine T.q49.F.eK (N:=["self","word"]) eo ?_;rintro nd _ _ _ s H vs Q E hr ⟨p,dx,tl,sl,ts,ss,x,rfl,U,hx,rL,ko,k⟩
 refine⟨_,(ao (aR (PW.pt (eX (aF aU (af 1) az (aH _)) (gk (aF aU (af 1) az (aH _)))))
    (ao (bA (bY PySem.F.plainAttrs_list PySem.F.slot_list_append PySem.F.type_list_append cL (bM (af 0) rfl) (aa (af 1) aj)))
    (aq (aA eU)))
    aO)
   (ao (bA (bY PySem.F.plainAttrs_list PySem.F.slot_list_append PySem.F.type_list_append cL (bM (af 0) rfl) (aa (dn T.q46 (HD T) hr bx (aa (af 1) aj)) aj)))
   (aq (aA eU)))),?_⟩
 obtain⟨us,htl,hpu⟩:=U.tr;have hlen:us.length=ts.length:=by rw[<- bg hpu];simp
 have lay:∀(H1:Hp)(v:V)(r:Tr),(∀ b o,H b=some o->H1 b=some o)->c8 H1 v r->(∀ H',l_ t.za H' p dx tl sl (r::ts) ss->gu tl sl H H'->Q (.bl false) H')->nv (.ref tl) [v] H1 (fun _ H2=>Q (.bl false) H2):=fun H1 v r s1 hv k' =>
  ⟨tl,us,v,rfl,rfl,s1 _ _ htl,by unfold sizeLine;exact oo,k' _ (U.part s1 hv htl).1 (U.part s1 hv htl).2⟩
 have sgn:(∀ H',l_ t.za H' p dx tl sl ts (x::ss)->gu tl sl H H'->Q (.bl true) H')->nv (.ref sl) [.str x] H (fun _ H2=>Q (.bl true) H2):=fun k' =>
  ⟨sl,_,_,rfl,rfl,U.sg,by simp;unfold sizeLine;exact oo,k' _ (U.sign x).1 (U.sign x).2⟩
 refine⟨_,Z,Z,_,Z,?_⟩;refine aQ (fun e=>?_) (fun e=>?_)
 ·have e:x="~":=V.str.inj (en e)
  rw[b6 (.inl e)]at k;refine bQ ?_;exact⟨_,Z,p,_,dx,_,_,Z,U.ob,T.ze,T.zl,dI _ _,.inl ⟨Z,_,SqL.of U.sg⟩,_,Z,sgn k⟩
 have e1:¬x="~":=fun z=>e (cS (bP V.str z))
 refine⟨_,Z,Z,_,Z,?_⟩;refine aQ (fun e=>?_) (fun e=>?_)
 ·have e:x="(":=V.str.inj (en e)
  rw[b6 (.inr e)]at k;exact⟨_,Z,p,_,dx,_,_,Z,U.ob,T.ze,T.zl,dI _ _,.inl ⟨Z,_,SqL.of U.sg⟩,_,Z,sgn k⟩
 have e2:¬x="(":=fun z=>e (cS (bP V.str z))
 rw[bq (by rintro(z|z);exact e1 z;exact e2 z)]at k;refine⟨_,Z,p,_,dx,_,_,Z,U.ob,T.ze,T.zw,jn _ _,.inl ⟨Z,_,SqL.of htl⟩,_,Z,x,Z,hx,?_⟩;have fresh:∀(H1:Hp)(q:Addr)(o:HO),H1 q=none->∀ b u,H1 b=some u->upd H1 q o b=some u:=fun H1 q o hq b u z=>by rw[aG (aK z hq)];exact z
 by_cases h1:x="1"
 ·rw[b6 h1]at k
  exact .inl ⟨h1,fun q hq=>lay _ _ _ (fresh H q _ hq) (.yes au) k⟩
 rw[bq h1]at k
 by_cases h0:x="0"
 ·rw[b6 h0]at k
  exact .inr (.inl ⟨h0,fun q hq=>lay _ _ _ (fresh H q _ hq) (.no au) k⟩)
 rw[bq h0]at k;refine .inr (.inr ⟨h1,h0,fun H1 s1=>?_⟩);cases hn:isName x with
 | true =>
  rw[b6 hn]at k;exact bQ fun q hq=>lay _ _ _ (fun b o z=>fresh H1 q _ hq b o (s1 b o z)) (.nm au) k
 | false =>
  rw[bq (by rw[hn];decide)]at k;exact bu (k H1 fun b o z _ _=>s1 b o z)
def tk(x:Str)(s:Str):Bool:=fM s x
def HQ(t:ku):Sp:=fun vs H Q E=>∃ p dx tl sl ts ss x,vs=[.ref p,.str x]/\l_ t.za H p dx tl sl ts ss/\As ss/\ts.length=nb ss+1/\ts.length<=5000/\ss.length<=5000/\Small x /\
 (x=")"->(∀ H',(aY bD ts ss).2=[]->gu tl sl H H'->E (.ref t.zj) none H')/\(∀ H' s2 ss2,(aY bD ts ss).2=s2::ss2->l_ t.za H' p dx tl sl (aY bD ts ss).1 ss2->gu tl sl H H'->Q (.bl false) H')) /\
 (¬x=")"->¬cz x->∀ H',gu tl sl H H'->E (.ref t.zj) none H') /\
 (¬x=")"->cz x->∀ H',l_ t.za H' p dx tl sl (aY (tk x) ts ss).1 (x::(aY (tk x) ts ss).2)->gu tl sl H H'->Q (.bl true) H')
theorem JB(x:Str):tk x "("=false:=by simp[tk,fM]
theorem ra:b_ ["self","word"] ["self","word"] (aV Ut):=eo
theorem En(T:Txt P w K mg t):Fm P w mg base T.q50 4 (HQ t):=by
 refine T.q50.F.rf ra (fun vs H Q E h=>by obtain⟨p,dx,tl,sl,ts,ss,x,rfl,_⟩:=h;rfl) (fun g9 A outer s H vs Q E hr h=>?_);obtain⟨p,dx,tl,sl,ts,ss,x,rfl,U,hok,hc,hl,ko,hx,kB,kN,kO⟩:=h;have nd:=ra.nd
 refine⟨_,(ao (aR (aF aU (af 1) az (aH _))
    (ao (bA (jL (af 0) T.ze T.q53 (HJ T) hr bx))
    (aq (aA eU)))
    aO)
   (ao (aR (rF (oO T.zr (af 1) (fH (v:=.ref t.zr) T.zK rfl)))
    (aq (dF eQ rfl T.zu T.zy (aa (wM (tM (af 1)) az) aj)))
    aO)
   (ao (j7 i7 (PW.pt (eV (ig (bM (af 0) rfl) (fun _=>rfl)) (dU (bV (dn T.q47 (Hz T) hr aM (aa (cy bB (bM (af 0) rfl) (mR j9 ak)) (aa (af 1) aj)))))))
    (aq (bA (jL (af 0) T.ze T.q51 (z7 T) hr aM))))
   (ao (bA (bY PySem.F.plainAttrs_list PySem.F.slot_list_append PySem.F.type_list_append cL (bM (af 0) rfl) (aa (af 1) aj)))
   (aq (aA eU)))))),?_⟩
 refine⟨_,Z,Z,_,Z,?_⟩;refine aQ (fun e=>?_) (fun e=>?_)
 ·have e:x=")":=V.str.inj (en e)
  obtain⟨k1,k2⟩:=kB e;exact⟨_,Z,p,dx,_,Z,U.ob,lJ _ _ dk dk,p,dx,tl,sl,ts,ss,Z,U,hok,hc,hl,k1,fun H' s2 ss2 h1 U2 h2=>k2 H' s2 ss2 h1 U2 h2⟩
 have e1:¬x=")":=fun z=>e (cS (bP V.str z))
 refine⟨_,Z,.inr x,Z,Z,_,Z,?_⟩
 by_cases ho:cz x
 case neg =>
  rw[Pb ho];refine bQ ?_;refine⟨_,Z,x,Z,repr_fits hx.2 hx.1,_,Z,repr_fits hx.2 hx.1,_,Z,?_,so,kN e1 ho H fun _ _ z _ _=>z⟩;have q1:=PySem.StrLaws.reprText_len x hx.2;have q2:=hx.1;rw[gE];have q3:(Str.ofString " can't follow a part of a sentence").length=34:=by decide +kernel
  rw[q3];unfold sizeLine;exact oo
 case pos =>
  rw[By ho];refine bu ?_;have kO:=kO e1 ho
  refine⟨fun m σ H2=>∃ kC ss',m=ss'.length/\σ=[some (.ref p),some (.str x)]/\l_ t.za H2 p dx tl sl kC ss'/\gu tl sl H H2/\As ss'/\kC.length=nb ss'+1/\kC.length<=5000/\ss'.length<=5000/\aY (tk x) kC ss'=aY (tk x) ts ss,
   ⟨_,ts,ss,rfl,rfl,U,fun _ _ z _ _=>z,hok,hc,hl,ko,rfl⟩,?_⟩
  rintro m σ H2 ⟨kC,ss',rfl,rfl,U2,k2,w9,sv,BQ,QC,hf⟩
  have fin:aY (tk x) kC ss'=(kC,ss')->nv (.ref sl) [.str x] H2 (fun _ H3=>Q (.bl true) H3):=fun hq=>by
   rw[<- hf,hq]at kO;exact⟨sl,_,_,Z,Z,U2.sg,by simp;unfold sizeLine;exact oo,kO _ (U2.sign x).1 (k2.trans (U2.sign x).2)⟩
  refine⟨_,Z,p,_,dx,_,_,Z,U2.ob,T.ze,T.zl,dI _ _,_,.inl ⟨_,SqL.of U2.sg,Z⟩,?_⟩;cases ss' with
  | nil =>
   refine bu ?_;refine bu ?_;exact⟨_,Z,p,_,dx,_,_,Z,U2.ob,T.ze,T.zl,dI _ _,.inl ⟨Z,_,SqL.of U2.sg⟩,_,Z,fin rfl⟩
  | cons s1 qB =>
   have E7:H2 sl=some (.lst (qB.reverse.map V.str++[.str s1])):=by rw[U2.sg];simp
   rw[b6 oz];refine⟨_,Z,p,_,dx,_,_,Z,U2.ob,T.ze,T.zl,dI _ _,_,Z,sl,_,-1,.str s1,Z,Z,SqL.of E7,qI _ _,_,Z,s1,x,Z,w9 s1 oz,ho,_,Z,?_⟩;cases ht:fM s1 x with
   | true =>
    refine bQ ?_;have e:¬s1="(":=by intro z;subst z;have:=JB x;unfold tk at this;rw[ht]at this;cases this
    have sR:s1="~"\/cz s1:=(w9 s1 oz).resolve_left e;obtain⟨q1,q2⟩:=jR sR sv;refine⟨fun σ' H'=>σ'=[some (.ref p),some (.str x)]/\l_ t.za H' p dx tl sl (eG s1 kC) qB/\gu tl sl H2 H',?_,?_⟩
    ·rintro σ' H' ⟨rfl,U3,k3⟩
     refine⟨qB.length,oz,eG s1 kC,qB,Z,Z,U3,k2.trans k3,fun s hs=>w9 s (by simp[hs]),q2,?_,?_,?_⟩
     ·have h1:nb qB<=nb (s1::qB):=by unfold nb;rw[fi];exact oo
      exact oo
     ·simp at QC;exact oo
     rw[<- hf];simp[aY,tk,ht]
    exact⟨_,Z,p,dx,_,Z,U2.ob,lJ _ _ dk dk,p,dx,tl,sl,kC,s1,qB,Z,U2,q1,BQ,fun H' U3 k3=>⟨Z,U3,k3⟩⟩
   | false =>
    refine bu ?_;exact⟨_,Z,p,_,dx,_,_,Z,U2.ob,T.ze,T.zl,dI _ _,.inl ⟨Z,_,SqL.of U2.sg⟩,_,Z,fin (by simp[aY,tk,ht])⟩
def gB(x:Str):Option Tr:=if x="1" then some .yes else if x="0" then some .no else if isName x=true then some (.nm x)else none
instance (x:Str):Decidable (cz x):=by unfold cz;infer_instance
abbrev Rd:=List Tr×List Str×Bool
def cg(st:Rd)(x:Str):Option Rd :=
 if st.2.2=true then(if x="~"\/x="(" then some (st.1,x::st.2.1,true)else(gB x).map fun r=>(r::st.1,st.2.1,false))
 else if x=")" then(match (aY bD st.1 st.2.1).2 with
  |[]=>none
  |_::ss=>some ((aY bD st.1 st.2.1).1,ss,false))
 else if cz x then some ((aY (tk x) st.1 st.2.1).1,x::(aY (tk x) st.1 st.2.1).2,true)
 else none
def dq:List Str->Rd->Option Rd
 |[],st=>some st
 |x::ws,st=>(cg st x).bind (dq ws)
def qW(st:Rd):Option Tr:=if st.2.2=true then none else match (aY bD st.1 st.2.1).2,(aY bD st.1 st.2.1).1 with
 |[],r::_=>some r
 |_,_=>none
def jz(ws:List Str):Option Tr:=(dq ws ([],[],true)).bind qW
theorem Eo(ws:List Str)(x:Str)(st:Rd):dq (ws++[x]) st=(dq ws st).bind fun s=>cg s x:=by
 induction ws generalizing st with
 |nil=>simp[dq]
 | cons y ws ih =>
  simp only[gS,dq,t_]
  congr 1
  funext s
  exact ih s
theorem Ep{st s1:Rd}(h:dq (ws.take i) st=some s1)(hx:ws[i]?=some x)(hn:cg s1 x=none):dq ws st=none:=by
 have e:ws=ws.take i++x::ws.drop (i+1):=by
  obtain⟨hi,hv⟩:=List.getElem?_eq_some_iff.mp hx;have e2:ws.drop i=x::ws.drop (i+1):=by rw[gT hi,hv]
  rw[<- e2,List.take_append_drop]
 rw[e]
 have gen:∀(u v:List Str)(s:Rd),dq (u++v) s=(dq u s).bind (dq v):=by
  intro u
  induction u with
  |nil=>intro v s;rfl
  |cons y u ih=>intro v s;simp only[gS,dq,t_];congr 1;funext z;exact ih v z
 rw[gen,h];simp[dq,hn]
theorem wZ{c:Str->Bool}(h:As ss):As (aY c ts ss).2:=by
 induction ss generalizing ts with
 |nil=>exact h
 | cons s ss ih =>
  unfold aY
  split
  ·exact ih fun x hx=>h x (by simp[hx])
  exact h
theorem uT{c:Str->Bool}:(aY c ts ss).2.length<=ss.length:=by
 induction ss generalizing ts with
 |nil=>exact qnr _
 | cons s ss ih =>
  unfold aY
  split
  ·exact fA ih oz
  exact qnr _
theorem uU{c:Str->Bool} (hb:c "("=false)   (ho:As ss) (h:ts.length=nb ss+1):(aY c ts ss).1.length=nb (aY c ts ss).2+1:=by
 induction ss generalizing ts with
 |nil=>exact h
 | cons s ss ih =>
  unfold aY
  split
  ·rename_i hc
   have e:¬s="(":=by intro z;rw[z,hb]at hc;cases hc
   exact ih (fun x hx=>ho x (by simp[hx])) (jR ((ho s oz).resolve_left e) h).2
  exact h
theorem BJ{c:Str->Bool}{r:List Str}{s:Str}(h:(aY c ts ss).2=s::r):c s=false:=by
 induction ss generalizing ts with
 |nil=>cases h
 | cons y ss ih =>
  unfold aY at h
  split at h
  ·exact ih h
  rename_i hc
  cases h;exact iL.mpr hc
structure Pt(n:Nat)(st:Rd):Prop where
 ok:As st.2.1
 cnt:st.1.length=nb st.2.1+(if st.2.2=true then 0 else 1)
 ss:st.2.1.length<=n
theorem JC(ss:List Str):nb ss<=ss.length:=List.countP_le_length
theorem Pt.step{st k7:Rd}(F:Pt n st)(h:cg st x=some k7):Pt (n+1) k7:=by
 obtain⟨ts,ss,due⟩:=st;obtain⟨ok,cnt,hs⟩:=F;dsimp only at ok cnt hs;unfold cg at h;dsimp only at h;cases due with
 | true =>
  rw[b6 rfl]at h cnt
  split at h
  ·rename_i hx
   cases h;refine⟨fun s hs=>?_,?_,by simp;exact oo⟩
   ·rcases av.mp hs with rfl|hs
    ·rcases hx with z|z;exact .inr (.inl z);exact .inl z
    exact ok s hs
   show ts.length=nb (x::ss)+0;rcases hx with rfl|rfl
   ·rw[wY];exact cnt
   rw[Jz];exact cnt
  cases hl:gB x with
  |none=>rw[hl]at h;cases h
  | some r =>
   rw[hl]at h;cases h;exact⟨ok,by show(r::ts).length=nb ss+1;simp;exact oo,by show ss.length<=_;exact oo⟩
 | false =>
  rw[bq odz]at h cnt
  split at h
  ·split at h
   ·cases h
   rename_i s2 ss2 he
   cases h;have o:=wZ (c:=bD) (ts:=ts) ok;have l:=uT (c:=bD) (ts:=ts) (ss:=ss);have c:=uU (c:=bD) (by simp[bD]) ok cnt;rw[he]at o l c
   have hb:s2="(":=by
    have z:=BJ he;unfold bD at z
    simpa using z
   subst hb;rw[Jz]at c;exact⟨fun s hs=>o s (by simp[hs]),c,by show ss2.length<=_;simp at l;exact oo⟩
  split at h
  ·rename_i ho
   cases h;have o:=wZ (c:=tk x) (ts:=ts) ok;have l:=uT (c:=tk x) (ts:=ts) (ss:=ss);have c:=uU (c:=tk x) (JB x) ok cnt;refine⟨fun s hs=>?_,?_,?_⟩
   ·rcases av.mp hs with rfl|hs
    ·exact .inr (.inr ho)
    exact o s hs
   ·show _=nb (x::_)+0
    rw[Jy ho];exact c
   show(x::_:List Str).length <= _;simp;exact oo
  cases h
inductive F4(t:ku)(vs:List V)(H:Hp)(Q:VK)(E:XK):Prop
 |mk(a:Addr)(ws:List Str)(_:vs=[.ref a])(_:H a=some (.lst (ws.map V.str)))(_:ws.length<=2500)(_:(∀ x∈ws,Small x))(_:(jz ws=none->∀ H',aT H H'->E (.ref t.zj) none H'))(_:(∀ r,jz ws=some r->∀ v H',aT H H'->c8 H' v r->Q v H'))
theorem KD(T:Txt P w K mg t):FM P w base T.q55 5 (F4 t):=by
 refine T.q55.F.eK (N:=["words","unfinished","part_due","word"]) eo ?_;rintro nd _ _ _ _ H _ _ E hr ⟨a,ws,rfl,ha,hl,ri,kE,kQ⟩
 refine ⟨_,(ao (eT 1 nd (MF T._g (HH T) (hr.mo) T._k T.q48.b aM))
   (ao (eT 2 nd eU)
   (ao (dX i7 rfl (cJ (af 0)) (g6 3 nd)
    (aq (aR (bV (af 2))
     (aq (eT 2 nd (EZ (af 1) T.ze T.q49 (HN T) hr bx (aa (af 3) aj))))
     (aq (eT 2 nd (EZ (af 1) T.ze T.q50 (En T) hr bx (aa (af 3) aj)))))))
   (ao (aR (bV (af 2))
    (aq (dF eQ rfl T.zu T.zy (aa az aj)))
    aO)
   (aq (aA (jL (af 1) T.ze T.q54 (Em T) hr bx))))))),?_⟩
 intro p dx hp IM g7;refine⟨p,dx,Z,au,fun tl sl H1 htl hsl U kp=>⟨Z,?_⟩⟩;have s1:aT H H1:=fun b o z=>kp b o (by rw[aG (aK z hp),aG (aK z IM)];exact z) (aK z hp)
 have fr:∀ b o,H b=some o->b≠tl/\b≠sl:=fun b o z=>by
  have z':upd (upd H dx (.own p)) p (.ins t.za dx []) b=some o:=by rw[aG (aK z hp),aG (aK z IM)];exact z
  exact⟨aK z' htl,aK z' hsl⟩
 have kS:∀{H2 H3:Hp},aT H H2->gu tl sl H2 H3->aT H H3:=fun s2 k3 b o z=>k3 b o (s2 b o z) (fr b o z).1 (fr b o z).2
 refine⟨_,rfl,a,rfl,⟨_,SqL.of (s1 _ _ ha)⟩,fW (K:=K) (a:=a) (xs:=ws.map V.str)
  (fun i σ H2=>∃ ts ss due v,dq (ws.take i) ([],[],true)=some (ts,ss,due)/\σ=[some (.ref a),some (.ref p),some (.bl due),v]/\l_ t.za H2 p dx tl sl ts ss/\aT H H2/\Pt i (ts,ss,due))
  ⟨[],[],true,none,rfl,rfl,U,s1,⟨(fun _ z=>nomatch z),rfl,qnr _⟩⟩ (fun i σ H2 _ ⟨_,_,_,_,_,_,_,s2,_⟩=>SqL.of (s2 _ _ ha)) ?_ ?_⟩
 ·rintro i y σ H2 hi ⟨ts,ss,due,v,AH,rfl,U2,s2,F⟩
  obtain⟨x,hx,rfl⟩:∃ x,ws[i]?=some x/\V.str x=y:=by
   rw[kT]at hi;exact Option.map_eq_some_iff.mp hi
  have QE:i<ws.length:=(List.getElem?_eq_some_iff.mp hx).1;have hxs:Small x:=ri x (qh hx)
  have QR:ts.length<=5000:=by
   have c:=F.cnt;have n:=JC ss;have l:=F.ss;dsimp only at c l
   split at c<;>exact oo
  have VX:ss.length<=5000:=by have l:=F.ss;dsimp only at l;exact oo
  have go:∀ k7,cg (ts,ss,due) x=some k7->dq (ws.take (i+1)) ([],[],true)=some k7/\Pt (i+1) k7:=fun k7 h=>by
   refine⟨?_,F.step h⟩;rw[pj,hx];show dq (ws.take i++[x]) _=_;rw[Eo,AH];exact h
  have bad:cg (ts,ss,due) x=none->∀ H',aT H H'->E (.ref t.zj) none H':=fun h=>kE (by unfold jz;rw[Ep AH hx h];rfl)
  refine⟨_,Z,_,Z,?_⟩;cases due with
  | true =>
   refine bQ ?_;refine⟨_,Z,p,dx,_,Z,U2.ob,lJ _ _ dk dk,_,Z,p,dx,tl,sl,ts,ss,x,Z,U2,hxs,QR,VX,?_⟩
   have FY:∀ r,¬(x="~"\/x="(")->gB x=r->cg (ts,ss,true) x=r.map fun r=>(r::ts,ss,false):=fun r h1 h2=>by
    unfold cg;dsimp only;rw[b6 rfl,bq h1,h2]
   by_cases BN:x="~"\/x="("
   ·rw[b6 BN]
    intro H3 U3 k3;have g:=go (ts,x::ss,true) (by unfold cg;dsimp only;rw[b6 rfl,b6 BN]);exact⟨ts,x::ss,true,_,g.1,Z,U3,kS s2 k3,g.2⟩
   rw[bq BN]
   by_cases h1:x="1"
   ·rw[b6 h1]
    intro H3 U3 k3;have g:=go (.yes::ts,ss,false) (FY (some .yes) BN (by unfold gB;rw[b6 h1]));exact⟨_,ss,false,_,g.1,Z,U3,kS s2 k3,g.2⟩
   rw[bq h1]
   by_cases h0:x="0"
   ·rw[b6 h0]
    intro H3 U3 k3;have g:=go (.no::ts,ss,false) (FY (some .no) BN (by unfold gB;rw[bq h1,b6 h0]));exact⟨_,ss,false,_,g.1,Z,U3,kS s2 k3,g.2⟩
   rw[bq h0]
   by_cases hn:isName x=true
   ·rw[b6 hn]
    intro H3 U3 k3;have g:=go (.nm x::ts,ss,false) (FY (some (.nm x)) BN (by unfold gB;rw[bq h1,bq h0,b6 hn]));exact⟨_,ss,false,_,g.1,Z,U3,kS s2 k3,g.2⟩
   rw[bq hn];intro H3 k3;exact bad (FY none BN (by unfold gB;rw[bq h1,bq h0,bq hn])) H3 (kS s2 k3)
  | false =>
   refine bu ?_;refine⟨_,Z,p,dx,_,Z,U2.ob,lJ _ _ dk dk,_,Z,p,dx,tl,sl,ts,ss,x,Z,U2,F.ok,F.cnt,QR,VX,hxs,?_⟩;refine⟨fun e=>⟨fun H3 he k3=>bad ?_ H3 (kS s2 k3),fun H3 s3 ss3 he U3 k3=>?_⟩,fun e1 e2 H3 k3=>bad ?_ H3 (kS s2 k3),fun e1 e2 H3 U3 k3=>?_⟩
   ·unfold cg;dsimp only;rw[bq odz,b6 e,he]
   ·have g:=go ((aY bD ts ss).1,ss3,false) (by unfold cg;dsimp only;rw[bq odz,b6 e,he])
    exact⟨_,ss3,false,_,g.1,Z,U3,kS s2 k3,g.2⟩
   ·unfold cg;dsimp only;rw[bq odz,bq e1,bq e2]
   have g:=go ((aY (tk x) ts ss).1,x::(aY (tk x) ts ss).2,true) (by unfold cg;dsimp only;rw[bq odz,bq e1,b6 e2]);exact⟨_,_,true,_,g.1,Z,U3,kS s2 k3,g.2⟩
 rintro σ H2 ⟨ts,ss,due,v,AH,rfl,U2,s2,F⟩;rw[dS,bS]at AH;have hlm:(ws.map V.str).length=ws.length:=dS _;have tf:jz ws=qW (ts,ss,due):=by unfold jz;rw[AH];rfl
 refine⟨_,Z,_,Z,?_⟩;cases due with
 |true=>exact bQ ⟨so,kE (by rw[tf];rfl) H2 s2⟩
 | false =>
  refine bu ?_
  have QR:ts.length<=5000:=by
   have c:=F.cnt;have n:=JC ss;have l:=F.ss;dsimp only at c l;rw[hlm]at l
   split at c<;>exact oo
  refine⟨_,Z,p,dx,_,Z,U2.ob,lJ _ _ dk dk,p,dx,tl,sl,ts,ss,Z,U2,F.ok,F.cnt,QR,fun H3 hn k3=>kE ?_ H3 (kS s2 k3),fun H3 v r rest h1 h2 hv k3=>kQ r ?_ v H3 (kS s2 k3) hv⟩
  ·rw[tf]
   unfold qW
   try dsimp only
   rw[bq odz]
   split
   ·rename_i h1 _;exact absurd h1 hn
   rfl
  rw[tf];unfold qW
  try dsimp only
  rw[bq odz,h1,h2]
theorem HR(T:Txt P w K mg t):FM P w base T.q4 3 C9:=by
 refine T.q4.F.eK (N:=["tree","layers","layer"]) eo ?_;rintro nd _ _ _ _ H vs Q E hr ⟨v,tr,rfl,ht,hsz,k⟩
 refine⟨_,(ao (iM (i:=1) nd rfl BM ak)
   (ao (iM (i:=2) nd rfl BM (bz (aa (pv 0) aj)))
   (ao (j7 i7 (ig (pv 2) (fun _=>rfl))
    (ao (CK (i:=1) nd rfl BM ak LK)
    (aq (iM (i:=2) nd rfl BM (pW (wU T) (hr.mo) rfl T.q3.m T.q3.k T.q3.b .nil aM (aa (pv 2) aj))))))
   (aq (aA (pv 1)))))),?_⟩
 refine⟨_,Z,(lk obz),fun l hl=>?_⟩
 refine⟨fun m σ H2=>∃(n:Nat)(l:Addr)(us:List V)(ts:List Tr),σ=[some v,some (.int n),some (.ref l)]/\aT H H2/\H2 l=some (.lst us)/\Paired (c8 H2) us ts/\dz ts<=100000/\n+jK ts=tr.depth/\m=dz ts,
  ⟨_,0,l,[v],[tr],rfl,aB hl,au,.cons (ht.mono (aB hl).b9) .nil,?_,?_,rfl⟩,?_⟩
 ·show tr.size+0<=100000
  exact oo
 ·show 0+max tr.depth 0=tr.depth
  exact oo
 rintro m σ H2 ⟨n,l,us,ts,rfl,s2,ko,hp,hz,hd,rfl⟩;refine⟨_,Z,_,.inl ⟨us,SqL.of ko,Z⟩,?_⟩;cases us with
 | nil =>
  cases hp;refine bu ?_;refine⟨_,Z,?_⟩;have hd:n+0=tr.depth:=hd;have e:n=tr.depth:=oo
  subst e;exact k H2 s2
 | cons u us =>
  refine bQ ?_;refine⟨fun σ' H'=>∃ m',m'<dz ts/\∃(n:Nat)(l:Addr)(us:List V)(ts:List Tr),σ'=[some v,some (.int n),some (.ref l)]/\aT H H'/\H' l=some (.lst us)/\Paired (c8 H') us ts/\dz ts<=100000/\n+jK ts=tr.depth/\m'=dz ts,fun _ _ h=>h,?_⟩;refine⟨_,Z,_,_,Z,Z,_,Z,l,u::us,ts,Z,ko,hp,hz,fun l' ws H' hn xE s' KU=>?_⟩
  have g7:ts≠[]:=by
   intro z;subst z;cases hp
  have e1:=rQ ts g7;have e2:=jx ts;have e3:0<ts.length:=List.length_pos_iff.mpr g7;exact⟨_,oo,n+1,l',ws,ts.flatMap Tr.kids,Z,s2.trans s',xE,KU,oo,oo,Z⟩
inductive Out where
 |tree (r:Tr)|nV|deep
def vM(x:Str):Out:=if 200<x.length then .nV else match jz (jF x)with
 |none=>.nV
 |some r=>if 40<r.depth then .deep else .tree r
inductive F6(t:ku)(vs:List V)(H:Hp)(Q:VK)(E:XK):Prop
 |mk(x:_)(_:vs=[.str x])(_:x.length<=sizeLine)(_:(∀ c∈x.cps.toList,c<16^8))(_:∀ H',aT H H'->(match vM x with | .tree r=>∀ v,c8 H' v r->Q v H' | .nV=>E (.ref t.zj) none H' | .deep=>E (.ref t.zB) none H'))
theorem bT(x y:Str):(x++y).cps.toList=x.cps.toList++y.cps.toList:=by
 show(x.cps++y.cps).toList=_;simp
theorem qy:∀(k:Nat)(l:List Nat),l.length=k->(∀ c∈l,c<16^8) -> (∀ y,y∈(fK l).1 \/ y=(fK l).2 -> y.length<=l.length+1/\∀ c∈y.cps.toList,c<16^8)
 | 0,l,h,_=>by
  have:l=[]:=List.length_eq_zero_iff.mp h;subst this;intro y hy;rcases hy with hy|rfl
  ·exact nomatch hy
  exact⟨mf _,fun c hc=>nomatch hc⟩
 | k + 1,l,h,hc=>by
  have g7:l≠[]:=fun z=>by rw[z]at h;cases h
  obtain⟨l',c,rfl⟩:∃ l' c,l=l'++[c]:=⟨l.dropLast,l.getLast g7,(Bn g7).symm⟩
  have hk:l'.length=k:=by simpa using h
  have ih:=qy k l' hk (fun d hd=>hc d (by simp[hd]));have lb:=(lH _ l' rfl).2;have QI:c<16^8:=hc c oz
  have one:(⟨#[c]⟩:Str).length <= (l'++[c]).length+1/\∀ d∈(⟨#[c]⟩:Str).cps.toList,d<16^8:=by
   refine⟨by show 1<=_;simp,fun d hd=>?_⟩;have:d=c:=by simpa using hd
   rw[this];exact QI
  have nil:(Str.ofString "").length <= (l'++[c]).length+1/\∀ d∈(Str.ofString "").cps.toList,d<16^8:=⟨mf _,fun d hd=>nomatch hd⟩
  have up:∀ y,(y∈(fK l').1 \/ y=(fK l').2)->y.length<=(l'++[c]).length+1/\∀ d∈y.cps.toList,d<16^8:=fun y hy=>⟨by have:=(ih y hy).1;simp;exact oo,(ih y hy).2⟩
  rw[jQ];generalize fK l'=st at ih lb up;obtain⟨ws,nm⟩:=st;intro y hy;unfold dB at hy
  split at hy
  ·rcases hy with hy|rfl
   ·exact up y (.inl hy)
   have q:=up nm (.inr rfl);refine⟨?_,fun d hd=>?_⟩
   ·show(nm++⟨#[c]⟩:Str).length <= _
    rw[gE];have:(⟨#[c]⟩:Str).length=1:=rfl;dsimp only at lb;simp;exact oo
   have hd:d∈(nm++⟨#[c]⟩:Str).cps.toList:=hd;rw[bT]at hd;rcases aw.mp hd with hd|hd
   ·exact q.2 d hd
   exact one.2 d hd
  rcases hy with hy|rfl
  ·have hy:y∈(if c=32 then _ else _:List Str):=hy
   split at hy<;>split at hy
   ·exact up y (.inl hy)
   ·rcases aw.mp hy with hy|hy
    ·exact up y (.inl hy)
    exact up y (.inr (by simpa using hy))
   ·rcases aw.mp hy with hy|hy
    ·exact up y (.inl hy)
    have:y=⟨#[c]⟩:=by simpa using hy
    rw[this];exact one
   rcases aw.mp hy with hy|hy
   ·rcases aw.mp hy with hy|hy
    ·exact up y (.inl hy)
    exact up y (.inr (by simpa using hy))
   have:y=⟨#[c]⟩:=by simpa using hy
   rw[this];exact one
  exact nil
theorem yq(hl:x.length<=200)(hc:∀ c∈x.cps.toList,c<16^8):(jF x).length <= 2500/\∀ y∈jF x,Small y:=by
 have hlen:(x.cps.toList++[32]).length=x.length+1:=by simp[Str.length]
 unfold jF;refine⟨?_,fun y hy=>?_⟩
 ·have:=(lH _ (x.cps.toList++[32]) rfl).1
  exact oo
 have:=qy _ (x.cps.toList++[32]) rfl (fun c h=>by
  rcases aw.mp h with h|h
  ·exact hc c h
  have:c=32:=by simpa using h
  rw[this];decide) y (.inl hy)
 exact⟨oo,this.2⟩
def uS(ts:List Tr)(ss:List Str):Nat:=(ts.map Tr.size).sum+ss.length
theorem Er(s:Str)(ts:List Tr):((eG s ts).map Tr.size).sum <= (ts.map Tr.size).sum+1:=by
 match ts with
 |[]=>simp[eG]
 | [r] =>
  show((if s="~" then [Tr.not r]else [r]).map Tr.size).sum <= _
  split<;>simp[Tr.size]
 | r::l::rest =>
  show((if s="~" then Tr.not r::l::rest else .bin (pG s) l r::rest).map Tr.size).sum <= _
  split<;>simp[Tr.size]<;>exact oo
theorem pH{c:Str->Bool}:uS (aY c ts ss).1 (aY c ts ss).2 <= uS ts ss:=by
 induction ss generalizing ts with
 |nil=>exact qnr _
 | cons s ss ih =>
  unfold aY
  split
  ·refine fA ih ?_
   have:=Er s ts;unfold uS;simp;exact oo
  exact qnr _
theorem HS{st k7:Rd}(h:cg st x=some k7):uS k7.1 k7.2.1<=uS st.1 st.2.1+1:=by
 obtain⟨ts,ss,due⟩:=st;unfold cg at h;dsimp only at h
 split at h
 ·split at h
  ·cases h;unfold uS;simp;exact oo
  unfold gB at h
  split at h
  ·cases h;unfold uS;simp[Tr.size];exact oo
  split at h
  ·cases h;unfold uS;simp[Tr.size];exact oo
  split at h
  ·cases h;unfold uS;simp[Tr.size];exact oo
  cases h
 split at h
 ·split at h
  ·cases h
  rename_i s2 ss2 he
  cases h;have q:=pH (c:=bD) (ts:=ts) (ss:=ss);rw[he]at q;unfold uS at q ⊢;simp at q ⊢;exact oo
 split at h
 ·cases h
  have q:=pH (c:=tk x) (ts:=ts) (ss:=ss);unfold uS at q ⊢;simp;exact oo
 cases h
theorem KH{st k7:Rd}(h:dq ws st=some k7):uS k7.1 k7.2.1<=uS st.1 st.2.1+ws.length:=by
 induction ws generalizing st with
 |nil=>cases h;exact qnr _
 | cons x ws ih =>
  unfold dq at h;obtain⟨s1,h1,h2⟩:=Option.bind_eq_some_iff.mp h;have:=HS h1;have:=ih h2;simp;exact oo
theorem Es{r:Tr}(h:jz ws=some r)(hl:ws.length<=2500):r.size<=100000:=by
 unfold jz at h;obtain⟨st,h1,h2⟩:=Option.bind_eq_some_iff.mp h;have q:=KH h1;unfold qW at h2
 split at h2
 ·cases h2
 split at h2
 ·rename_i e1 e2
  cases h2;have z:=pH (c:=bD) (ts:=st.1) (ss:=st.2.1);rw[e2]at z;unfold uS at z q;simp at z q;exact oo
 cases h2
theorem KJ(T:Txt P w K mg t):FM P w base T.q56 6 (F6 t):=by
 refine T.q56.F.eK (N:=["text","tree"]) eo ?_;rintro nd _ _ _ s H _ _ _ hr ⟨x,rfl,hl,hc,k⟩
 refine⟨_,(ao (aR (aF mW (aZ kh T.zd Bt.len (aa (af 0) aj)) (fH (v:=.int 200) T.ZR ⟨_,rfl⟩) (aH _))
    (aq (dF eQ rfl T.zu T.zy (aa az aj)))
    aO)
   (ao (eT 1 nd (dn T.q55 (KD T) hr bx (aa (dn T.q45 (HF T) hr aM (aa (af 0) aj)) aj)))
   (ao (aR (aF mW (dn T.q4 (HR T) hr aM (aa (af 1) aj)) (fH (v:=.int 40) T.ZU ⟨_,rfl⟩) (aH _))
    (aq (dF eQ rfl T.zW T.Z8 (aa az aj)))
    aO)
   (aq (aA (af 1)))))),?_⟩
 refine⟨_,Z,_,Z,hl,_,_,Z,Z,_,Z,?_⟩;unfold vM at k;refine aQ (fun e=>?_) (fun e=>?_)
 ·have e:(200:Int)<x.length:=en e
  rw[b6 oo]at k;exact⟨so,k H fun _ _ z=>z⟩
 have e:¬(200:Int)<x.length:=fun z=>e (cS z)
 rw[bq oo]at k;obtain⟨w1,w2⟩:=yq oo hc;refine⟨_,Z,x,Z,oo,fun p hp=>⟨p,jF x,Z,au,w1,w2,fun hn H1 s1=>?_,fun r wq v H1 s1 hv=>?_⟩⟩
 ·rw[hn]at k
  exact k H1 ((aB hp).trans s1)
 rw[wq]at k;refine⟨_,Z,v,r,Z,hv,Es wq w1,fun H2 s2=>?_⟩;have k:=k H2 ((aB hp).trans (s1.trans s2));refine⟨_,_,Z,Z,_,Z,?_⟩;refine aQ (fun e=>?_) (fun e=>?_)
 ·have e:(40:Int)<r.depth:=en e
  dsimp only at k;rw[b6 oo]at k;exact⟨so,k⟩
 have e:¬(40:Int)<r.depth:=fun z=>e (cS z)
 dsimp only at k;rw[bq oo]at k;exact⟨_,Z,k v (hv.mono s2.b9)⟩
inductive Wr:Int->Tr->List Str->Prop
 |leaf {n:Int} {x:Str} {t:Tr} (h:gB x=some t) (h1:¬x="~") (h2:¬x="("):Wr n t [x]
 |not {n:Int} {t:Tr} {ws:List Str} (h:Wr 5 t ws):Wr n (.not t) ("~" :: ws)
 |Yy {n:Int} {t:Tr} {ws:List Str} (h:Wr 0 t ws):Wr n t ("(" :: (ws++[(")":Str)]))
 |bin {n nl nr:Int} {o:Str} {l r:Tr} {wl wr:List Str} (ho:cz o) (hn:n<=dO o) (hl:dO o<=nl/\(o=">"->dO o<nl)) (hr:dO o<=nr/\(¬o=">"->dO o<nr)) (h1:Wr nl l wl) (h2:Wr nr r wr):Wr n (.bin (pG o) l r) (wl++o::wr)
def AW(n:Int):List Str->Prop
 |[]=>True
 |s::_=>∀ o,cz o->n<=dO o->fM s o=false
theorem AW.more{n m:Int}(h:n<=m):∀{ss:List Str},AW n ss->AW m ss
 |[],_=>trivial
 |_::_,f=>fun o ho hn=>f o ho (Int.le_trans h hn)
def Qs(n:Int)(s:Str):Prop:=s="~"\/(cz s/\n<=dO s)
theorem xf{o:Str}(h:cz o):dO o<=4:=by
 rcases h with rfl|rfl|rfl|rfl<;>decide +kernel
theorem Nq{o:Str}(h:cz o):1<=dO o:=by
 rcases h with rfl|rfl|rfl|rfl<;>decide +kernel
theorem HW{o p:Str}(h:cz o)(h':cz p)(e:dO o=dO p):o=p:=by
 rcases h with rfl|rfl|rfl|rfl<;>rcases h' with rfl|rfl|rfl|rfl<;>first|rfl|exact absurd e dk
theorem xg{s o:Str}(hs:cz s)(ho:cz o):fM s o=if s=o then !decide (o=">")else decide (dO o<dO s):=by
 unfold fM;rw[bq (lK hs).1,bq (lK hs).2]
theorem BK(o:Str):fM "~" o=true:=by
 unfold fM;rw[bq dk,b6 rfl]
theorem Et(o:Str):fM "(" o=false:=by
 unfold fM;rw[b6 rfl]
theorem xj{c:Str->Bool}{s:Str}(h:¬c s=true):aY c ts (s::ss)=(ts,s::ss):=by
 show(if c s=true then _ else _)=_;rw[bq h]
theorem uV{c:Str->Bool}{s:Str}(h:c s=true):aY c ts (s::ss)=aY c (eG s ts) ss:=by
 show(if c s=true then _ else _)=_;rw[b6 h]
theorem BL{o:Str}(ho:cz o){n:Int}(hn:n<=dO o):∀{ss:List Str},AW n ss->aY (tk o) ts ss=(ts,ss)
 |[],_=>rfl
 | s::ss,f=>xj (by
  have:tk o s=false:=f o ho hn;rw[this]
  decide)
theorem BP(r:Tr)(rest:List Tr):eG "~" (r::rest)=.not r::rest:=by
 simp[eG]
theorem HX{o:Str}(ho:cz o)(r l:Tr)(rest:List Tr):eG o (r::l::rest)=.bin (pG o) l r::rest:=by
 simp[eG,(lK ho).2]
theorem xm(u v:List Str)(s:Rd):dq (u++v) s=(dq u s).bind (dq v):=by
 induction u generalizing s with
 |nil=>rfl
 | cons y u ih =>
  simp only[gS,dq,t_]
  congr 1
  funext z
  exact ih z
theorem su(h:x="~"\/x="(") (ts:List Tr) (ss:List Str):cg (ts,ss,true) x=some (ts,x::ss,true):=by
 unfold cg;rw[b6 rfl,b6 h]
theorem Eu{r:Tr} (h1:¬x="~") (h2:¬x="(") (h:gB x=some r) (ts:List Tr) (ss:List Str):cg (ts,ss,true) x=some (r::ts,ss,false):=by
 unfold cg;rw[b6 rfl,bq (fun z=>z.elim h1 h2),h]
 rfl
theorem KN{o:Str}(ho:cz o)(ts:List Tr)(ss:List Str):cg (ts,ss,false) o=some ((aY (tk o) ts ss).1,o::(aY (tk o) ts ss).2,true):=by
 unfold cg;have g7:¬o=")":=by rcases ho with rfl|rfl|rfl|rfl<;>decide +kernel
 rw[bq gc,bq g7,b6 ho]
theorem BR{kC:List Tr}{ss':List Str}(h:aY bD ts ss=(kC,x::ss')):cg (ts,ss,false) ")"=some (kC,ss',false):=by
 unfold cg;rw[bq gc,b6 rfl]
 try dsimp only
 rw[h]
theorem Nr{n:Int}{t:Tr}(h:Wr n t ws):∀(ts:List Tr)(ss:List Str),AW n ss -> ∃(kC:List Tr)(ps:List Str),dq ws (ts,ss,true)=some (kC,ps++ss,false)/\(∀ s∈ps,Qs n s)/\∀ c:Str->Bool,(∀ s∈ps,c s=true)->aY c kC (ps++ss)=aY c (t::ts) ss:=by
 induction h with
 | leaf h h1 h2 =>
  intro ts ss _;refine⟨_,[],?_,(fun s hs=>nomatch hs),fun c _=>rfl⟩;show(cg _ _).bind _=_;rw[Eu h1 h2 h]
  rfl
 | @not n t ws h ih =>
  intro ts ss _;obtain⟨kC,ps,e,hp,hc⟩:=ih ts ("~" :: ss) (fun o ho hn=>by have:=xf ho;exact oo);refine⟨kC,ps++[("~":Str)],?_,fun s hs=>?_,fun c lh=>?_⟩
  ·show(cg _ _).bind _=_
   rw[su (.inl rfl)];show dq ws _=_;rw[e,c_]
   rfl
  ·rcases aw.mp hs with hs|hs
   ·rcases hp s hs with h|⟨ho,h⟩
    ·exact .inl h
    have:=xf ho;exact oo
   exact .inl (ar.mp hs)
  rw[c_];show aY c kC (ps++("~":Str):: ss)=_;rw[hc c fun s hs=>lh s (sN _ hs),uV (lh "~" oz),BP]
 | @Yy n t ws h ih =>
  intro ts ss _;obtain⟨kC,ps,e,hp,hc⟩:=ih ts ("(" :: ss) (fun o _ _=>Et o);refine⟨t::ts,[],?_,fun s hs=>(nomatch hs),fun c _=>rfl⟩;show(cg _ _).bind _=_;rw[su (.inr rfl)];show dq (ws++[(")":Str)]) _=_;rw[xm,e];show(cg _ _).bind _=_
  have hf:aY bD kC (ps++("(":Str):: ss)=(t::ts,("(":Str):: ss):=by
   rw[hc bD fun s hs=>?_]
   ·exact xj dk
   rcases hp s hs with rfl|⟨ho,_⟩
   ·decide +kernel
   unfold bD;rw[gp (lK ho).1]
   rfl
  rw[BR hf]
  rfl
 | @bin n nl nr o l r wl wr ho hn hl hr h1 h2 RI RH =>
  intro ts ss hf;obtain⟨_s,eT,el,gI,BS⟩:=RI ts ss (hf.more (Int.le_trans hn hl.1))
  have _t:∀ s∈eT,tk o s=true:=fun s hs=>by
   rcases gI s hs with rfl|⟨wo,hb⟩
   ·exact BK o
   show fM s o=true;rw[xg wo ho]
   by_cases e:s=o
   ·rw[b6 e,gp fun z=>?_]
    ·rfl
    have:=hl.2 z;rw[e]at hb;exact oo
   rw[bq e];refine cS ?_;have h1:=hl.1;have h2:dO s≠dO o:=fun z=>e (HW wo ho z)
   exact oo
  have fl:aY (tk o) _s (eT++ss)=(l::ts,ss):=by rw[BS _ _t,BL ho hn hf]
  obtain⟨UN,UY,er,hpr,hcr⟩:=RH (l::ts) (o::ss) (fun p hp hb=>by
   rw[xg ho hp]
   by_cases e:o=p
   ·rw[b6 e]
    by_cases e2:p=">"
    ·rw[cS e2];rfl
    have:=hr.2 (by rw[e];exact e2);rw[e]at this;exact oo
   rw[bq e];refine gp ?_;have h1:=hr.1
   exact oo)
  refine⟨UN,UY++[o],?_,fun s hs=>?_,fun c lh=>?_⟩
  ·rw[xm,el]
   show(cg _ _).bind _=_;rw[KN ho,fl];show dq wr _=_;rw[er,c_]
   rfl
  ·rcases aw.mp hs with hs|hs
   ·rcases hpr s hs with h|⟨h,hb⟩
    ·exact .inl h
    exact .inr ⟨h,by have:=hr.1;exact oo⟩
   rw[ar.mp hs];exact .inr ⟨ho,hn⟩
  rw[c_];show aY c UN (UY++o::ss)=_;rw[hcr c fun s hs=>lh s (sN _ hs),uV (lh o oz),HX ho]
theorem KQ{n:Int}{t:Tr}(h:Wr n t ws):jz ws=some t:=by
 obtain⟨kC,ps,e,hp,hc⟩:=Nr h [] [] trivial;unfold jz;rw[e];show qW (kC,ps++[],false)=some t
 have hf:=hc bD fun s hs=>by
  rcases hp s hs with rfl|⟨ho,_⟩
  ·decide +kernel
  unfold bD;rw[gp (lK ho).1]
  rfl
 unfold qW;rw[bq gc]
 try dsimp only
 rw[hf]
 rfl
def flush(st:List Str×Str):List Str:=if st.2="" then st.1 else st.1++[st.2]
def du(cs:List Nat)(ws:List Str):Prop:=∀ acc:List Str,flush (cs.foldl dB (acc,""))=acc++ws
theorem xn(h:du x.cps.toList ws):jF x=ws:=by
 unfold jF;rw[jQ];have h:=h [];show(dB (List.foldl dB ([],"") x.cps.toList) 32).1=ws;generalize List.foldl dB ([],"") x.cps.toList=st at h;unfold dB;rw[bq odz,b6 rfl];exact h
def isSign(c:Nat):Prop:=cV c=false/\¬c=32
theorem jT(h:isSign c)(st:List Str×Str):dB st c=(flush st++[⟨#[c]⟩],("":Str)):=by
 unfold dB flush;rw[bq (by rw[h.1];decide),bq h.2]
theorem qz(st:List Str×Str):dB st 32=(flush st,("":Str)):=by
 unfold dB flush;rw[bq odz,b6 rfl]
theorem gA(l:List Str):flush (l,"")=l:=b6 rfl
theorem Ew(h:isSign c)(hs:du cs ws):du (c::cs) (⟨#[c]⟩:: ws):=fun acc=>by
 rw[eS,jT h,gA,hs];simp
theorem KR(h:isSign c)(hs:du cs ws):du (cs++[c]) (ws++[⟨#[c]⟩]):=fun acc=>by
 rw[lI,eS,EM,jT h,gA,hs];simp
theorem z8(h:isSign c):du [c] [⟨#[c]⟩]:=fun acc=>by
 rw[eS,EM,jT h,gA,gA]
theorem Nt{ds:List Nat}{vs:List Str}(hc:isSign c)(h:du cs ws)(hd:du ds vs):du (cs++c::ds) (ws++⟨#[c]⟩:: vs):=fun acc=>by
 rw[lI,eS,jT hc,h,hd];simp
theorem HY(h:du cs ws):du (32::cs) ws:=fun acc=>by
 rw[eS,qz,gA,h]
theorem Ex(h:du cs ws):du (cs++[32]) ws:=fun acc=>by
 rw[lI,eS,EM,qz,gA,h]
theorem pI(acc:List Str):∀(cs:List Nat)(y:Str),(∀ c∈cs,cV c=true)->cs.foldl dB (acc,y)=(acc,⟨(y.cps.toList++cs).toArray⟩)
 | [],y,_=>by
  show(acc,y)=_;rw[bX]
 | c::cs,y,h=>by
  rw[eS]
  have e:dB (acc,y) c=(acc,y++⟨#[c]⟩):=by
   unfold dB;rw[b6 (h c qms)]
  rw[e,pI acc cs _ fun d hd=>h d (k8 _ hd),bT];simp
theorem KY(h:isName x=true):du x.cps.toList [x]:=fun acc=>by
 unfold isName at h;obtain⟨h1,h2⟩:=aE.mp h;obtain⟨h1,_⟩:=aE.mp h1;have h1:=en h1;rw[pI acc x.cps.toList "" fun c hc=>cm.mp h2 c hc];have e0:("":Str).cps.toList=[]:=by decide +kernel
 have e:(⟨(("":Str).cps.toList++x.cps.toList).toArray⟩:Str)=x:=by
  rw[e0];simp
 rw[e];unfold flush;rw[bq fun z=>?_];have z:x="":=z;rw[z]at h1;exact absurd h1 dk
theorem xq:("(":Str)=⟨#[40]⟩:=by decide +kernel
theorem z9:(")":Str)=⟨#[41]⟩:=by decide +kernel
theorem xr:("~":Str)=⟨#[126]⟩:=by decide +kernel
theorem nq:("1":Str)=⟨#[49]⟩:=by decide +kernel
theorem jG:("0":Str)=⟨#[48]⟩:=by decide +kernel
theorem KZ:(" ":Str)=⟨#[32]⟩:=by decide +kernel
theorem p8(h:isName x=true)(hc:cV c=false):¬x=⟨#[c]⟩:=fun z=>by
 rw[z]at h;unfold isName at h;have h2:=(aE.mp h).2;have:cV c=true:=cm.mp h2 c oz;rw[hc]at this;cases this
theorem Ey(h:isName x=true):gB x=some (.nm x):=by
 unfold gB;rw[bq (by rw[nq];exact p8 h odz),bq (by rw[jG];exact p8 h odz),b6 h]
theorem lL(h:mx x):isName x=true:=by
 have e:x.length=x.cps.toList.length:=ag.symm;unfold isName;rw[cS (show(1:Int)<=(x.length:Int)by have:=h.pos;exact oo),cS (show(x.length:Int)<=8 by have:=h.le;exact oo)];refine cm.mpr fun c hc=>?_
 have:=h.ok c hc;unfold cV;rw[cS this.1,cS this.2]
 rfl
def jo(cs:List Nat):Str:=⟨cs.toArray⟩
theorem sy(cs:List Nat):(jo cs).cps.toList=cs:=by simp[jo]
theorem jH{y:Str}(h:x.cps.toList=y.cps.toList):x=y:=by
 cases x;cases y;exact bP Str.mk (xy.mp h)
def cG(x:Str):Str:=jo (cH 32 x.cps.toList)
def bJ(x:Str):Str:=jo ((cj 32 x.cps.toList).dropWhile (· == 32))
theorem nA:(" ":Str)=⟨#[32]⟩:=by decide +kernel
inductive C8(vs:List V)(H:Hp)(Q:VK)(E:XK):Prop
 |mk(x:_)(_:vs=[.str x])(_:x.length<=sizeLine)(_:∀ H',(∀ b o,H b=some o->H' b=some o)->Q (.str (cG x)) H')
inductive wc(vs:List V)(H:Hp)(Q:VK)(E:XK):Prop
 |mk(x:_)(_:vs=[.str x])(_:x.length<=sizeLine)(_:∀ H',(∀ b o,H b=some o->H' b=some o)->Q (.str (bJ x)) H')
theorem pJ(c:Nat):∀ l:List Nat,(cH c l).length <= l.length
 |[]=>qnr _
 | d::r=>by
  have:=pJ c r;show(if d=c then []else d::cH c r).length <= r.length+1
  split
  ·exact mf _
  show(cH c r).length+1<=_;exact oo
theorem lM(c:Nat):∀ l:List Nat,(cj c l).length <= l.length
 |[]=>qnr _
 | d::r=>by
  have:=lM c r;show(if d=c then r else cj c r).length <= r.length+1
  split
  ·omega
  exact oo
def gQ(c:Nat):Bool:=decide (48<=c)&&decide (c<=57)
def gC(x:Str):Bool:=(decide (1<=(x.length:Int))&&decide ((x.length:Int)<=30))&&x.cps.toList.all gQ && !(decide (x.cps.toList.head?=some 48) && !decide (x="0"))
def qX(x:Str):V:=if gC x=true then .int (gb x.cps.toList:Nat)else .non
inductive LW(vs:List V)(H:Hp)(Q:VK)(E:XK):Prop
 |mk(c:_)(_:vs=[.str ⟨#[c]⟩])(_:Q (.bl (gQ c)) H)
inductive CO(vs:List V)(H:Hp)(Q:VK)(E:XK):Prop
 |mk(x:_)(_:vs=[.str x])(_:x.length<=sizeLine)(_:∀ H',(∀ b o,H b=some o->H' b=some o)->Q (qX x) H')
theorem le_0(c:Nat):(!decide ((⟨#[c]⟩:Str).cps.toList<(Str.ofString "0").cps.toList))=decide (48<=c):=by
 show(!decide ([c] < [48]))=_;rw[sr]
 by_cases h:48<=c
 ·simp[h]
 simp[h];exact oo
theorem Qt(c:Nat):(!decide ((Str.ofString "9").cps.toList<(⟨#[c]⟩:Str).cps.toList))=decide (c<=57):=by
 show(!decide ([57] < [c]))=_;rw[sr]
 by_cases h:c<=57
 ·simp[h]
 simp[h];exact oo
theorem nC(T:Txt P w K mg t):FM P w base T.q59 1 C8:=by
 refine T.q59.F.eK (N:=["text"]) eo ?_;rintro nd _ _ _ _ _ _ _ _ hr ⟨x,rfl,hx,k⟩;refine⟨_,(aq (aA (cy aJ (bY PySem.F.plainAttrs_str PySem.F.slot_str_partition PySem.F.type_str_partition kI (af 0) (aa az aj)) ak))),?_⟩;refine⟨_,Z,Z,x,_,32,Z,Z,nA,hx,fun p b hp=>⟨p,_,0,_,Z,Z,SqT.of au,Z,?_⟩⟩;exact k _ (fun b' o e=>by rw[aG (aK e hp)];exact e)
theorem nF(T:Txt P w K mg t):FM P w base T.q60 1 wc:=by
 refine T.q60.F.eK (N:=["text"]) eo ?_;rintro nd _ _ _ _ _ _ _ _ hr ⟨x,rfl,hx,k⟩;refine⟨_,(aq (aA (bY PySem.F.plainAttrs_str PySem.F.slot_str_lstrip PySem.F.type_str_lstrip Bm (cy aJ (bY PySem.F.plainAttrs_str PySem.F.slot_str_partition PySem.F.type_str_partition kI (af 0) (aa az aj)) ak) (aa az aj)))),?_⟩;refine⟨_,Z,Z,x,_,32,Z,Z,nA,hx,fun p b hp=>⟨p,_,2,_,Z,Z,SqT.of au,Z,Z,_,_,Z,Z,?_,?_⟩⟩
 ·have h1:=lM 32 x.cps.toList
  have h2:x.length=x.cps.toList.length:=ag.symm;show(cj 32 x.cps.toList).toArray.size<=sizeLine;rw[ah];exact oo
 have e:Txt.lstripChars ⟨(cj 32 x.cps.toList).toArray⟩ " "=bJ x:=by
  refine jH ?_;rw[nA,GX];unfold bJ;rw[sy]
 rw[e];exact k _ (fun b' o e=>by rw[aG (aK e hp)];exact e)
theorem Nu(T:Txt P w K mg t):FM P w base T.q61 1 LW:=by
 refine T.q61.F.eK (N:=["sign"]) eo ?_;rintro nd _ _ _ _ _ _ _ _ hr ⟨c,rfl,k⟩;refine⟨_,(aq (aA (qG lD lD az (af 0) az))),?_⟩;refine⟨_,Z,_,_,Z,Z,_,Z,?_⟩;rw[le_0];unfold gQ at k;cases h:decide (48<=c)with
 | false =>
  rw[h]at k;rw[bq gc];exact k
 | true =>
  rw[h]at k;rw[b6 rfl];refine⟨_,_,Z,Z,?_⟩;rw[Qt];exact k
theorem aX{p:Addr}(hp:H p=none):∀ b u,H b=some u->(upd H p o) b=some u:=fun b u q=>by
 rw[aG (fun z=>by rw[z,hp]at q;cases q)];exact q
def iV(x:Str):V:=if gC x=true then(if gb x.cps.toList=0 then .non else .int (gb x.cps.toList:Nat))else .non
def Qu:V->V
 | .int i=>.int (-i)
 |v=>v
def lN(x:Str):V:=if Txt.startswith x "-"=true then Qu (iV (dD x (some 1) none))else qX x
inductive F8(vs:List V)(H:Hp)(Q:VK)(E:XK):Prop
 |mk(x:_)(_:vs=[.str x])(_:x.length<=sizeLine)(_:∀ H',(∀ b o,H b=some o->H' b=some o)->Q (iV x) H')
inductive yT(vs:List V)(H:Hp)(Q:VK)(E:XK):Prop
 |mk(x:_)(_:vs=[.str x])(_:x.length<=sizeLine)(_:∀ H',(∀ b o,H b=some o->H' b=some o)->Q (lN x) H')
theorem xu(T:Txt P w K mg t):FM P w base T.q62 2 CO:=by
 refine T.q62.F.eK (N:=["word"]) eo ?_;rintro nd _ _ _ _ H _ Q _ hr ⟨x,rfl,hx,k⟩
 refine⟨_,(ao (aR (PW.pt (eX (cP (vV pR pR ak (aZ kh T.zd Bt.len (aa (af 0) aj)) (fH (v:=.int 30) T.ZP ⟨_,rfl⟩))) (gk (cP (bV (aZ (lC rfl) T.zF Bt.all (aa (bW rfl ["sign"] [none] (wK (af 0)) kr (fun _ _ _ _ _ _=>(g6 0 (kF (l:=["sign"])))) (fun _ _ _ _ _ _=>cM) (fun _ _ _ _ _ _=>(dn T.q61 (Nu T) hr aM (aa (af 0) aj)))) aj)))))))
    (aq (aA bK))
    aO)
   (ao (aR (PW.pt (eV (aF aU (cy oG (af 0) ak) az (aH _)) (dU (aF gZ (af 0) az (aH _)))))
    (aq (aA bK))
    aO)
   (aq (aA (dj DN T.zG Bt.int (aa (af 0) aj)))))),?_⟩
 have KL:x.length=x.cps.toList.length:=ag.symm
 have fin:∀ H',(∀ b o,H b=some o->H' b=some o)->gC x=false->Q .non H':=fun H' s' e=>by
  have:=k H' s';unfold qX at this;rw[e,bq gc]at this;exact this
 have UT:∀ b o,H b=some o->H b=some o:=fun _ _ z=>z
 refine⟨_,Z,_,Z,hx,_,_,Z,Z,_,Z,?_⟩;refine aQ (fun e1=>?_) (fun e1=>⟨_,rfl,bQ (fin H UT (by simp at e1;simp[gC];exact oo))⟩);have e1:=en e1;refine⟨_,_,Z,Z,_,Z,?_⟩;cases e2:decide ((x.length:Int)<=30)with
 |false=>exact bQ (fin H UT (by simp at e2;simp[gC];exact oo))
 |true =>
 refine bu ?_;refine⟨_,Z,x,Z,oN (fun c=>.bl (gQ c)) hx (fun c R _ hR=>⟨True.intro,_,Z,c,Z,hR⟩) fun p hp=>?_⟩;have s1:=aX (o:=.lst (x.cps.toList.map fun c=>V.bl (gQ c))) hp;refine⟨p,x.cps.toList.map gQ,Z,?_,?_⟩
 ·refine SqL.of ?_
  rw[au,eD];rfl
 generalize upd H p (.lst (x.cps.toList.map fun c=>V.bl (gQ c)))=H1 at s1 ⊢;have Tj:(x.cps.toList.map gQ).all id=x.cps.toList.all gQ:=by simp
 rw[Tj];cases e3:x.cps.toList.all gQ with
 |false=>exact⟨_,Z,bQ (fin H1 s1 (by simp only[gC,e3];simp))⟩
 |true =>
 refine⟨_,Z,bu ?_⟩;have B_:=en e2
 obtain⟨c0,r,hc⟩:∃ c0 r,x.cps.toList=c0::r:=by
  cases h:x.cps.toList with
  |nil=>rw[h]at KL;have:x.length=0:=KL;exact oo
  |cons a b=>exact⟨a,b,Z⟩
 have Nl:∀ c∈c0::r,48<=c/\c<=57:=fun c sx=>by
  have:=cm.mp e3 c (by rw[hc];exact sx);unfold gQ at this
  simpa using this
 have xb:x.cps[0]?=some c0:=by rw[<- Array.getElem?_toList,hc];rfl
 have Lv:("0":Str)=⟨#[48]⟩:=by decide +kernel
 have done:(49<=c0/\c0<=57\/c0=48/\r=[])->gC x=true->Q (.int (gb (c0::r):Nat)) H1:=fun _ e=>by
  have:=k H1 s1;unfold qX at this;rw[e,b6 rfl,hc]at this;exact this
 have MI:r.length<600:=by
  rw[hc]at KL;have:x.length=r.length+1:=KL;exact oo
 have P4:gC x = !(decide (c0=48) && !decide (x="0")):=by
  unfold gC;rw[cS e1,cS B_,e3,hc];simp
 have xb:qo x.cps.toList 0=some c0:=bR (j:=0) (by rw[hc];rfl)
 have eq0:decide (V.str ⟨#[c0]⟩=V.str ("0":Str))=decide (c0=48):=by
  by_cases e:c0=48
  ·rw[cS e,cS (by rw[Lv,e])]
  rw[gp e,gp (fun z=>e (by
   have h:=V.str.inj z;rw[Lv]at h;have h2:=bP (fun y:Str=>y.cps.toList) h
   exact(List.cons.inj h2).1))]
 have eqx:decide (V.str x=V.str ("0":Str))=decide (x="0"):=by
  by_cases e:x="0"
  ·rw[cS e,cS (by rw[e])]
  rw[gp e,gp (fun z=>e (V.str.inj z))]
 have Fh:gC x=true->∃(x':Str)(OX:Nat)(r':List Nat),[V.str x]=[V.str x']/\x'.cps.toList=OX::r'/\(49<=OX/\OX<=57\/OX=48/\r'=[])/\(∀ c∈r',48<=c/\c<=57)/\r'.length<600/\Q (.int (gb (OX::r'):Nat)) H1:=fun e=>by
  have h0:=Nl c0 qms
  have Vp:49<=c0/\c0<=57\/c0=48/\r=[]:=by
   by_cases e4:c0=48
   ·refine .inr ⟨e4,?_⟩
    rw[P4,cS e4]at e;have e5:x="0":=by simpa using e
    rw[e5,Lv]at hc;have hc:[48]=c0::r:=hc;exact(List.cons.inj hc).2.symm
   exact .inl oo
  exact⟨x,c0,r,Z,hc,Vp,fun c sx=>Nl c (k8 _ sx),MI,done Vp e⟩
 refine⟨_,Z,x,0,c0,Z,Z,hx,xb,Z,_,Z,?_⟩;rw[eq0];cases e4:decide (c0=48)with
 |false=>exact bu (bu ⟨_,rfl,Fh (by rw[P4,e4];rfl)⟩)
 | true =>
  refine bQ ⟨_,rfl,rfl,_,rfl,?_⟩;rw[eqx];cases e5:decide (x="0")with
  |true=>exact bu ⟨_,rfl,Fh (by rw[P4,e4,e5];rfl)⟩
  |false=>exact bQ (fin H1 s1 (by rw[P4,e4,e5];rfl))
theorem Aa(T:Txt P w K mg t):FM P w base T.q63 3 F8:=by
 refine T.q63.F.eK (N:=["word","number"]) eo ?_;rintro nd _ _ _ _ _ _ _ _ hr ⟨x,rfl,hx,k⟩
 refine⟨_,(ao (eT 1 nd (dn T.q62 (xu T) hr aM (aa (af 0) aj)))
   (aq (aA (fD (aF aU (af 1) ak (aH _)) bK (af 1))))),?_⟩
 refine⟨_,Z,x,Z,hx,fun H1 s1=>?_⟩;have k1:=k H1 s1;unfold iV at k1;unfold qX;cases h:gC x with
 | false =>
  rw[h,bq gc]at k1;rw[bq gc];exact⟨_,Z,Z,_,Z,aQ (fun z=>k1) (fun _=>⟨_,Z,k1⟩)⟩
 | true =>
  rw[h,b6 rfl]at k1;rw[b6 rfl];refine⟨_,Z,Z,_,Z,aQ (fun z=>?_) (fun z=>?_)⟩
  ·have z:=V.int.inj (en z)
   rw[b6 oo]at k1;exact k1
  have z:¬gb x.cps.toList=0:=fun e=>z (cS (by rw[e];rfl))
  rw[bq z]at k1;exact⟨_,Z,k1⟩
theorem Ez(T:Txt P w K mg t):FM P w base T.q64 4 yT:=by
 refine T.q64.F.eK (N:=["word","number"]) eo ?_;rintro nd _ _ _ _ _ _ _ _ hr ⟨x,rfl,hx,k⟩
 refine⟨_,(ao (aR (cP (bV (bY PySem.F.plainAttrs_str PySem.F.slot_str_startswith PySem.F.type_str_startswith vq (af 0) (aa az aj))))
    (aq (aA (dn T.q62 (xu T) hr aM (aa (af 0) aj))))
    aO)
   (ao (eT 1 nd (dn T.q63 (Aa T) hr aM (aa (ik wC (af 0) (iG ak) jV) aj)))
   (aq (aA (fD (aF gU (af 1) bK (aH _)) bK (mR j9 (af 1))))))),?_⟩
 refine⟨_,Z,Z,x,_,Z,Z,_,Z,?_⟩;unfold lN at k;cases h:Txt.startswith x "-" with
 | false =>
  rw[h,bq gc]at k;exact bQ ⟨_,rfl,x,rfl,hx,k⟩
 | true =>
  rw[h,b6 rfl]at k;refine bu ?_;refine⟨_,Z,_,Z,x,Z,hx,dD x (some 1) none,Z,fA (yL x _ _) hx,fun H1 s1=>?_⟩;have k1:=k H1 s1;unfold iV at k1 ⊢;cases h2:gC (dD x (some 1) none)with
  | false =>
   rw[h2,bq gc]at k1;rw[bq gc];exact⟨_,Z,Z,_,Z,aQ (fun _=>k1) (fun z=>absurd (cS rfl) z)⟩
  | true =>
   rw[h2,b6 rfl]at k1;rw[b6 rfl]
   by_cases h3:gb (dD x (some 1) none).cps.toList=0
   ·rw[b6 h3]at k1 ⊢
    exact⟨_,Z,Z,_,Z,aQ (fun _=>k1) (fun z=>absurd (cS rfl) z)⟩
   rw[bq h3]at k1 ⊢;exact⟨_,rfl,rfl,_,rfl,aQ (fun z=>absurd (en z) (by intro z;cases z)) (fun _=>⟨_,rfl,_,rfl,k1⟩)⟩
def gj:Nat:=1000000
theorem jq:gj+10<=sizeLine:=by decide
def EY(H:Hp)(v g_:V)(ts:List Str):Prop:=∃ q l,v=.ref q/\H q=some (.tup [g_,.ref l])/\H l=some (.lst (ts.map V.str))
def JD(H:Hp)(v:V):Option (V×List Str)->Prop
 |none=>v=.non
 |some (g_,ts)=>EY H v g_ ts
def spF(f:Str->Option (V×List Str)):Sp:=fun vs H Q _=>∃ x,vs=[.str x]/\x.length<=gj/\∀ r H',(∀ b o,H b=some o->H' b=some o)->JD H' r (f x)->Q r H'
def BV(v:V)(ts:List Str):Option (V×List Str):=if v=.non then none else some (v,ts)
def vN(x:Str):Option (V×List Str):=some (.non,[x])
def sE(x:Str):Option (V×List Str):=if x="" then some (.non,[])else none
def BW(x:Str):Option (V×List Str):=if isName x=true then some (.str x,[])else none
def sG(x:Str):Option (V×List Str):=BV (iV (cG x)) [bJ x]
def sH(x:Str):Option (V×List Str):=BV (lN (cG x)) [bJ x]
inductive sL(vs:List V)(H:Hp)(Q:VK)(E:XK):Prop
 |mk(v x:_)(_:vs=[v,.str x])(_:(v=.non \/ ∃ i,v=.int i))(_:x.length<=gj)(_:∀ r H',(∀ b o,H b=some o->H' b=some o)->JD H' r (BV v [bJ x])->Q r H')
theorem bI(s:∀ b o,H b=some o->H1 b=some o)(s':∀ b o,H1 b=some o->H2 b=some o):∀ b o,H b=some o->H2 b=some o:=fun b o e=>s' b o (s b o e)
theorem uW(x:Str):(cG x).length <= x.length:=by
 have h1:=pJ 32 x.cps.toList;have h2:x.length=x.cps.toList.length:=ag.symm;show(cH 32 x.cps.toList).toArray.size<=_;rw[ah];exact oo
theorem uX(x:Str):iV x=.non \/ ∃ i,iV x=.int i:=by
 unfold iV
 split
 ·split
  ·exact .inl rfl
  exact .inr ⟨_,rfl⟩
 exact .inl rfl
theorem Fb(x:Str):lN x=.non \/ ∃ i,lN x=.int i:=by
 unfold lN
 split
 ·rcases uX (dD x (some 1) none)with e|⟨i,e⟩
  ·rw[e];exact .inl rfl
  rw[e];exact .inr ⟨_,rfl⟩
 unfold qX
 split
 ·exact .inr ⟨_,rfl⟩
 exact .inl rfl
theorem u7:b_ ["text"] ["text"] (aV Uq):=eo
theorem xx(T:Txt P w K mg t):FM P w base T.q69 1 (spF vN):=by
 refine T.q69.F.rf u7 (fun vs H Q E h=>by obtain⟨x,rfl,_⟩:=h;rfl) (fun g9 A outer s H vs Q E hr h=>?_);obtain⟨x,rfl,hx,k⟩:=h;have nd:=u7.nd;refine⟨_,(aq (aA (bj (aa bK (aa (bz (aa (af 0) aj)) aj))))),?_⟩;refine⟨_,Z,so,fun l hl=>⟨xB,fun q hq=>?_⟩⟩;exact k _ _ (bI (aX hl) (aX hq)) ⟨q,l,rfl,au,aX hq _ _ au⟩
theorem vi:b_ ["text"] ["text"] (aV Um):=eo
theorem qY(T:Txt P w K mg t):FM P w base T.q73 1 (spF sE):=by
 refine T.q73.F.rf vi (fun vs H Q E h=>by obtain⟨x,rfl,_⟩:=h;rfl) (fun g9 A outer s H vs Q E hr h=>?_);obtain⟨x,rfl,hx,k⟩:=h;have nd:=vi.nd;refine⟨_,(aq (aA (fD (aF aU (af 0) az (aH _)) (bj (aa bK (aa (bz aj) aj))) bK))),?_⟩;unfold sE at k;refine⟨_,Z,Z,_,Z,aQ (fun z=>?_) (fun z=>?_)⟩
 ·rw[b6 (V.str.inj (en z))]at k
  refine⟨(by show 0<=sizeLine;decide),fun l hl=>⟨xB,fun q hq=>?_⟩⟩;exact k _ _ (bI (aX hl) (aX hq)) ⟨q,l,rfl,au,aX hq _ _ au⟩
 rw[bq (fun e=>z (cS (by rw[e])))]at k;exact k _ _ (fun _ _ e=>e) rfl
theorem ve:b_ ["text"] ["text"] (aV Uo):=eo
theorem Ia(T:Txt P w K mg t):FM P w base T.q71 3 (spF BW):=by
 refine T.q71.F.rf ve (fun vs H Q E h=>by obtain⟨x,rfl,_⟩:=h;rfl) (fun g9 A outer s H vs Q E hr h=>?_);obtain⟨x,rfl,hx,k⟩:=h;have nd:=ve.nd;refine⟨_,(aq (aA (fD (bV (dn T.q1 (pF T) hr aM (aa (af 0) aj))) (bj (aa (af 0) (aa (bz aj) aj))) bK))),?_⟩;unfold BW at k;refine⟨_,Z,x,Z,fA hx odz,fun H1 s1=>⟨_,Z,?_⟩⟩;cases h:isName x with
 | true =>
  rw[h,b6 rfl]at k;refine bQ ⟨_,rfl,(by show 0<=sizeLine;decide),fun l hl=>⟨xB,fun q hq=>?_⟩⟩;exact k _ _ (bI s1 (bI (aX hl) (aX hq))) ⟨q,l,rfl,au,aX hq _ _ au⟩
 | false =>
  rw[h,bq gc]at k;exact bu (k _ _ s1 rfl)
theorem qC(T:Txt P w K mg t):FM P w base T.q66 2 sL:=by
 refine T.q66.F.eK (N:=["number","text"]) eo ?_;rintro nd _ _ _ _ _ _ _ _ hr ⟨v,x,rfl,hv,hx,k⟩;refine⟨_,(aq (aA (fD (aF gU (af 0) bK (aH _)) bK (bj (aa (af 0) (aa (bz (aa (dn T.q60 (nF T) hr aM (aa (af 1) aj)) aj)) aj)))))),?_⟩;unfold BV at k;rcases hv with rfl|⟨i,rfl⟩
 ·rw[b6 rfl]at k
  exact⟨_,Z,Z,_,Z,aQ (fun _=>k _ _ (fun _ _ e=>e) rfl) (fun z=>absurd (cS rfl) z)⟩
 rw[bq (by intro z;cases z)]at k;refine⟨_,rfl,rfl,_,rfl,aQ (fun z=>absurd (en z) (by intro z;cases z)) (fun _=>?_)⟩;refine⟨_,Z,_,Z,x,Z,fA hx odz,fun H1 s1=>⟨so,fun l hl=>⟨xB,fun q hq=>?_⟩⟩⟩;exact k _ _ (bI s1 (bI (aX hl) (aX hq))) ⟨q,l,rfl,au,aX hq _ _ au⟩
theorem u4:b_ ["text"] ["text"] (aV Us):=eo
theorem Ib(T:Txt P w K mg t):FM P w base T.q67 4 (spF sG):=by
 refine T.q67.F.rf u4 (fun vs H Q E h=>by obtain⟨x,rfl,_⟩:=h;rfl) (fun g9 A outer s H vs Q E hr h=>?_);obtain⟨x,rfl,hx,k⟩:=h;have nd:=u4.nd;refine⟨_,(aq (aA (dn T.q66 (qC T) hr aM (aa (dn T.q63 (Aa T) hr aM (aa (dn T.q59 (nC T) hr aM (aa (af 0) aj)) aj)) (aa (af 0) aj))))),?_⟩;have Fs:=uW x;refine⟨_,Z,x,Z,fA hx odz,fun H1 s1=>⟨cG x,Z,fA Fs (fA hx odz),fun H2 s2=>?_⟩⟩;exact⟨_,Z,_,x,Z,uX _,hx,fun r H3 s3 ro=>k r H3 (bI s1 (bI s2 s3)) ro⟩
theorem vc:b_ ["text"] ["text"] (aV Ur):=eo
theorem Ie(T:Txt P w K mg t):FM P w base T.q68 5 (spF sH):=by
 refine T.q68.F.rf vc (fun vs H Q E h=>by obtain⟨x,rfl,_⟩:=h;rfl) (fun g9 A outer s H vs Q E hr h=>?_);obtain⟨x,rfl,hx,k⟩:=h;have nd:=vc.nd;refine⟨_,(aq (aA (dn T.q66 (qC T) hr aM (aa (dn T.q64 (Ez T) hr aM (aa (dn T.q59 (nC T) hr aM (aa (af 0) aj)) aj)) (aa (af 0) aj))))),?_⟩;have Fs:=uW x;refine⟨_,Z,x,Z,fA hx odz,fun H1 s1=>⟨cG x,Z,fA Fs (fA hx odz),fun H2 s2=>?_⟩⟩;exact⟨_,Z,_,x,Z,Fb _,hx,fun r H3 s3 ro=>k r H3 (bI s1 (bI s2 s3)) ro⟩
def dw(x:Str):List Str:=(Txt.split x " ").filter fun(w:Str)=>!decide (w="")
inductive vF(vs:List V)(H:Hp)(Q:VK)(E:XK):Prop
 |mk(x:_)(_:vs=[.str x])(_:x.length<=gj)(_:∀ p H',(∀ b o,H b=some o->H' b=some o)->H' p=some (.lst ((dw x).map V.str))->Q (.ref p) H')
def gJ(x:Str):Str:=Txt.stripChars x " "
def nG(x:Str):Option (V×List Str):=if Txt.contains x ":"=true then some (.non,[gJ (jo (cH 58 x.cps.toList)),gJ (jo (cj 58 x.cps.toList))])else none
theorem JF:(":":Str)=⟨#[58]⟩:=by decide +kernel
def fO(ns:List Str):Bool:=(decide (1<=(ns.length:Int))&&decide ((ns.length:Int)<=8))&&ns.all fun n=>isName n&&decide ((ns.map V.str).countP (fun z=>l9 z (.str n))=1)
inductive qS(vs:List V)(H:Hp)(Q:VK)(E:XK):Prop
 |mk(x:_)(_:vs=[.str x])(_:x.length<=gj)(_:∀ r H',(∀ b o,H b=some o->H' b=some o)->(if fO (dw x)=true then ∃ p,EY H' r (.ref p) []/\H' p=some (.tup ((dw x).map V.str))else r=.non)->Q r H')
theorem BX(T:Txt P w K mg t):FM P w base T.q58 1 vF:=by
 refine T.q58.F.eK (N:=["text"]) eo ?_;rintro nd _ _ _ _ H _ _ _ hr ⟨x,rfl,hx,k⟩;refine⟨_,(aq (aA (bW rfl ["word"] [none] (cJ (bY PySem.F.plainAttrs_str PySem.F.slot_str_split PySem.F.type_str_split wO (af 0) (aa az aj))) kr (fun _ _ _ _ _ _=>(g6 0 (kF (l:=["word"])))) (fun _ _ _ _ _ _=>gr (aF gZ (af 0) az (aH _))) (fun _ _ _ _ _ _=>(af 0))))),?_⟩;have hm:=jq;have hsl:=oj x " ";refine⟨_,Z,Z,x,_,Z,Z,(by rw[nA];decide),oo,oo,fun p hp=>?_⟩;have s1:=aX (o:=.lst ((Txt.split x " ").map V.str)) hp;have hp1:(upd H p (.lst ((Txt.split x " ").map V.str))) p=some (.lst ((Txt.split x " ").map V.str)):=au;generalize upd H p (.lst ((Txt.split x " ").map V.str))=H1 at s1 hp1 ⊢;refine⟨p,Z,⟨_,SqL.of hp1⟩,?_⟩
 refine fU (K:=K) (a:=p) (xs:=(Txt.split x " ").map V.str) (fun i ys H'=>H'=H1/\ys=(((Txt.split x " ").take i).filter fun(w:Str)=>!decide (w="")).map V.str) ⟨rfl,rfl⟩ (by rw[dS];exact oo) (fun i ys H' ⟨_,e⟩=>by
  rw[e,dS];have:=cn (fun w:Str=>!decide (w="")) ((Txt.split x " ").take i);rw[bE]at this
  exact oo) (fun i ys H' ⟨e,_⟩=>by subst e;exact SqL.of hp1) ?_ ?_
 ·rintro i z ys H' hi ⟨e,rfl⟩
  subst e;rw[kT]at hi
  obtain⟨c,hc,rfl⟩:∃ c,(Txt.split x " ")[i]?=some c/\z=V.str c:=by
   cases q:(Txt.split x " ")[i]? with
   |none=>rw[q]at hi;cases hi
   |some c=>rw[q]at hi;exact⟨c,Z,(iE hi).symm⟩
  have et:(((Txt.split x " ").take (i+1)).filter fun(w:Str)=>!decide (w=""))=(((Txt.split x " ").take i).filter fun(w:Str)=>!decide (w=""))++(if c="" then []else [c]):=by
   rw[pj,hc,cE]
   congr 1
   show List.filter _ [c]=_
   by_cases h:c=""
   ·rw[b6 h,de (by rw[cS h];decide)]
    rfl
   rw[bq h,da (by rw[gp h];rfl)]
   rfl
  refine⟨trivial,_,Z,Z,_,Z,aQ (fun z=>?_) (fun z=>?_)⟩
  ·have z:¬c="":=fun e=>by rw[e,cS rfl]at z;cases z
   refine⟨_,Z,Z,?_⟩;rw[et,bq z,ax]
   rfl
  have z:c="":=dP fun e=>z (by rw[gp (fun q=>e (V.str.inj q))];rfl)
  refine⟨Z,?_⟩;rw[et,b6 z,bX]
 rintro ys H' ⟨e,rfl⟩;subst e;show ∀ l,H' l=none->_;rw[dS,bS];intro l hl;exact k l _ (bI s1 (aX hl)) au
theorem va:b_ ["text","parts"] ["text"] (aV Up):=eo
theorem Ig(T:Txt P w K mg t):FM P w base T.q70 1 (spF nG):=by
 refine T.q70.F.rf va (fun vs H Q E h=>by obtain⟨x,rfl,_⟩:=h;rfl) (fun g9 A outer s H vs Q E hr h=>?_);obtain⟨x,rfl,hx,k⟩:=h;have nd:=va.nd
 refine⟨_,(ao (aR (aF ye az (af 0) ou)
    (aq (aA bK))
    aO)
   (ao (eT 1 nd (bY PySem.F.plainAttrs_str PySem.F.slot_str_partition PySem.F.type_str_partition kI (af 0) (aa az aj)))
   (aq (aA (bj (aa bK (aa (bz (aa (bY PySem.F.plainAttrs_str PySem.F.slot_str_strip PySem.F.type_str_strip oR (cy aJ (af 1) ak) (aa az aj)) (aa (bY PySem.F.plainAttrs_str PySem.F.slot_str_strip PySem.F.type_str_strip oR (cy aJ (af 1) ak) (aa az aj)) aj))) aj))))))),?_⟩
 have hm:=jq;have KL:x.length=x.cps.toList.length:=ag.symm;unfold nG at k;refine⟨_,Z,_,_,Z,Z,_,Z,?_⟩;cases h:Txt.contains x ":" with
 | false =>
  rw[h,bq gc]at k;exact bQ (k _ _ (fun _ _ e=>e) rfl)
 | true =>
  rw[h,b6 rfl]at k;refine bu ?_;refine⟨_,Z,Z,x,_,58,Z,Z,JF,oo,fun p b hp=>?_⟩;have s1:=aX (o:=.tup [.str ⟨(cH 58 x.cps.toList).toArray⟩,.str b,.str ⟨(cj 58 x.cps.toList).toArray⟩]) hp;have hp1:(upd H p (.tup [.str ⟨(cH 58 x.cps.toList).toArray⟩,.str b,.str ⟨(cj 58 x.cps.toList).toArray⟩])) p=some (.tup [.str (jo (cH 58 x.cps.toList)),.str b,.str (jo (cj 58 x.cps.toList))]):=au;generalize upd H p (.tup [.str ⟨(cH 58 x.cps.toList).toArray⟩,.str b,.str ⟨(cj 58 x.cps.toList).toArray⟩])=H1 at s1 hp1 ⊢
  have hA:(jo (cH 58 x.cps.toList)).length <= sizeLine:=by
   have:=pJ 58 x.cps.toList;show(cH 58 x.cps.toList).toArray.size<=_;rw[ah];exact oo
  have hB:(jo (cj 58 x.cps.toList)).length <= sizeLine:=by
   have:=lM 58 x.cps.toList;show(cj 58 x.cps.toList).toArray.size<=_;rw[ah];exact oo
  refine⟨_,Z,p,_,0,_,Z,Z,SqT.of hp1,Z,Z,_,_,Z,Z,hA,_,Z,p,_,2,_,Z,Z,SqT.of hp1,Z,Z,_,_,Z,Z,hB,xB,fun l hl=>⟨xB,fun q hq=>?_⟩⟩;exact k _ _ (bI s1 (bI (aX hl) (aX hq))) ⟨q,l,rfl,au,aX hq _ _ au⟩
theorem yr{n:Str}(h:n∈dw x):n.length<=x.length:=PyProof.Rows.part_short (ia.mp h).1
theorem BZ(x:Str):(dw x).length <= x.length+2:=fA (cn _ _) (oj x " ")
theorem sI(ns:List Str):(ns.map V.str).all eZ=true:=by
 rw[cm];intro v hv;obtain⟨n,_,rfl⟩:=ck.mp hv
 rfl
theorem Fd(T:Txt P w K mg t):FM P w base T.q65 3 qS:=by
 refine T.q65.F.eK (N:=["text","names"]) eo ?_;rintro nd _ _ _ _ H _ Q _ hr ⟨x,rfl,hx,k⟩
 refine⟨_,(ao (DM 1 nd (dn T.q58 (BX T) hr aM (aa (af 0) aj)))
   (ao (aR (cP (vV pR pR ak (aZ aW T.zd Bt.len (aa (g5 1) aj)) (fH (v:=.int 8) T._o ⟨_,rfl⟩)))
    (aq (aA bK))
    aO)
   (ao (aR (cP (bV (aZ (lC rfl) T.zF Bt.all (aa (bW rfl ["name","names"] [none,some 1] (cJ (g5 1)) kr (fun _ _ _ _ _ _=>(g6 0 (kF (l:=["name","names"])))) (fun _ _ _ _ _ _=>cM) (fun _ _ _ _ _ _=>(oh (dn T.q1 (pF T) hr aM (aa (af 0) aj)) (lZ (b8 aU (Dn (K:=K) rfl PySem.F.plainAttrs_list PySem.F.slot_list_count PySem.F.type_list_count (DQ (K:=K)) (g5 1) (aa (af 0) aj)) ak (aH _)))))) aj))))
    (aq (aA bK))
    aO)
   (aq (aA (bj (aa (dj dC T.zn Bt.tuple (aa (g5 1) aj)) (aa (bz aj) aj)))))))),?_⟩
 have hm:=jq;refine⟨_,Z,x,Z,hx,fun p H1 s1 hp1=>?_⟩;have nE:∀ n∈dw x,n.length<=sizeLine:=fun n hn=>by have:=yr hn;exact oo
 have R':=BZ x;generalize dw x=ns at hp1 nE R' k;have fin:∀ H',(∀ b o,H b=some o->H' b=some o)->fO ns=false->Q .non H':=fun H' s' e=>k _ _ s' (by rw[e,bq gc])
 refine⟨_,Z,p,_,Z,.inl (SqL.of hp1),_,_,Z,Z,_,Z,?_⟩;rw[dS];refine aQ (fun e1=>?_) (fun e1=>⟨_,rfl,bQ (fin H1 s1 (by simp at e1;simp[fO];exact oo))⟩);have e1:=en e1;refine⟨_,_,Z,Z,_,Z,?_⟩;cases e2:decide ((ns.length:Int)<=8)with
 |false=>exact bQ (fin H1 s1 (by simp at e2;simp[fO];exact oo))
 |true =>
 refine bu ?_;refine⟨_,Z,p,Z,⟨_,SqL.of hp1⟩,?_⟩;refine fU (K:=K) (a:=p) (xs:=ns.map V.str) (fun i ys H'=>(∀ b o,H1 b=some o->H' b=some o)/\ys=((ns.take i).map fun n=>isName n&&decide ((ns.map V.str).countP (fun z=>l9 z (.str n))=1)).map V.bl) ⟨fun _ _ e=>e,rfl⟩ (by rw[dS];exact oo) (fun i ys H' ⟨_,e⟩=>by rw[e,dS,dS,bE];exact oo) (fun i ys H' ⟨s',_⟩=>SqL.of (s' _ _ hp1)) ?_ ?_
 ·rintro i z ys H2 hi ⟨s2,rfl⟩
  rw[kT]at hi
  obtain⟨n,hn,rfl⟩:∃ c,ns[i]?=some c/\z=V.str c:=by
   cases q:ns[i]? with
   |none=>rw[q]at hi;cases hi
   |some c=>rw[q]at hi;exact⟨c,Z,(iE hi).symm⟩
  have D7:n∈ns:=qh hn
  have et:∀ b:Bool,(isName n&&decide ((ns.map V.str).countP (fun z=>l9 z (.str n))=1))=b->((ns.take i).map fun n=>isName n&&decide ((ns.map V.str).countP (fun z=>l9 z (.str n))=1)).map V.bl++[V.bl b]=((ns.take (i+1)).map fun n=>isName n&&decide ((ns.map V.str).countP (fun z=>l9 z (.str n))=1)).map V.bl:=fun b e=>by
   rw[pj,hn,ax,ax,<- e]
   rfl
  refine⟨⟨Z,trivial⟩,_,Z,n,Z,nE n D7,fun H3 s3=>⟨_,Z,?_⟩⟩;have DI:=bI s2 s3;cases h:isName n with
  |false=>exact bu ⟨DI,et false (by rw[h];rfl)⟩
  | true =>
   refine bQ ⟨_,rfl,.inl ⟨rfl,_,SqL.of (DI _ _ hp1)⟩,_,rfl,p,_,.str n,rfl,rfl,SqL.of (DI _ _ hp1),rfl,sI ns,fun j hj ej=>⟨rfl,DI,et _ ?_⟩⟩;rw[h,hW,<- ej]
   by_cases e:j=1
   ·rw[cS e,cS (by rw[e];rfl)]
   rw[gp e,gp (fun z=>e (by have:=V.int.inj z;exact oo))]
 rintro ys H2 ⟨s2,rfl⟩ lc D8;rw[dS,bS];have s3:=aX (o:=.lst ((ns.map fun n=>isName n&&decide ((ns.map V.str).countP (fun z=>l9 z (.str n))=1)).map V.bl)) D8;refine⟨lc,_,Z,SqL.of au,?_⟩;generalize upd H2 lc (.lst ((ns.map fun n=>isName n&&decide ((ns.map V.str).countP (fun z=>l9 z (.str n))=1)).map V.bl))=H3 at s3 ⊢;have iP:=bI s1 (bI s2 s3);have wx:=s3 _ _ (s2 _ _ hp1)
 have ea:(ns.map fun n=>isName n&&decide ((ns.map V.str).countP (fun z=>l9 z (.str n))=1)).all id=ns.all fun n=>isName n&&decide ((ns.map V.str).countP (fun z=>l9 z (.str n))=1):=by
  rw[uj]
  rfl
 rw[ea];have B_:=en e2
 have eb:fO ns=ns.all fun n=>isName n&&decide ((ns.map V.str).countP (fun z=>l9 z (.str n))=1):=by
  unfold fO;rw[cS e1,cS B_]
  rfl
 rw[<- eb];cases h:fO ns with
 |false=>exact⟨_,Z,bQ (fin H3 iP h)⟩
 | true =>
  refine⟨_,Z,bu ?_⟩;refine⟨_,Z,p,_,Z,.inl ⟨SqL.of wx,fun q hq=>⟨(by show 0<=sizeLine;decide),fun l hl=>⟨xB,fun r ro=>?_⟩⟩⟩⟩;refine k _ _ (bI iP (bI (aX hq) (bI (aX hl) (aX ro)))) ?_;rw[h,b6 rfl];exact⟨q,⟨r,l,Z,au,aX ro _ _ au⟩,aX ro _ _ (aX hl _ _ au)⟩
def Qv(H:Hp)(v:V)(kd:Str):Option (V×List Str)->Prop
 |none=>v=.non
 |some (g_,ts)=>∃ q l,v=.ref q/\H q=some (.tup [.str kd,g_,.ref l])/\H l=some (.lst (ts.map V.str))
theorem sJ(x:Str):(bJ x).length <= x.length:=by
 have h1:=lM 32 x.cps.toList;have h2:x.length=x.cps.toList.length:=ag.symm
 have h3:((cj 32 x.cps.toList).dropWhile (· == 32)).length <= (cj 32 x.cps.toList).length:=by
  rw[<- jj,dA];exact oo
 show((cj 32 x.cps.toList).dropWhile (· == 32)).toArray.size<=_;rw[ah];exact oo
def iW(kd:Str):Option (Str->Option (V×List Str)):=
 if kd="take" then some sG else if kd="give"\/kd="ask" then some vN else if kd="lean" then some sH else if kd="keep" then some BW else if kd="back"\/kd="again"\/kd="worlds" then some sE else if kd="lost" then some nG else none
inductive y6(vs:List V)(H:Hp)(Q:VK)(E:XK):Prop
 |mk(x:Str)(O:Str->Option (V×List Str))(_:vs=[.str x])(_:x.length<=gj)(_:iW (cG x)=some O)(_:∀ r H',(∀ b o,H b=some o->H' b=some o)->Qv H' r (cG x) (O (bJ x))->Q r H')
theorem xF:b_ ["row","kind","pair"] ["row"] (aV Ul):=eo
theorem Fe(T:Txt P w K mg t):FM P w base T.q74 6 y6:=by
 refine T.q74.F.eK (k:=5) xF ?_;rintro nd _ _ _ _ _ _ _ _ hr ⟨x,O,rfl,hx,hO,k⟩;have hu:=fX hr
 refine⟨_,(ao (eT 1 nd (dn T.q59 (nC T) hr aM (aa (af 0) aj)))
   (ao (aR (rF (oO T.zo (af 1) (fH (v:=.ref t.zo) T.zE rfl)))
    (aq (aA bK))
    aO)
   (ao (eT 2 nd (m7 (jh T.zo hu (fH (v:=.ref t.zo) T.zE rfl) (af 1) (fun _ _=>rfl)) (aa (dn T.q60 (nF T) hr aM (aa (af 0) aj)) aj)))
   (aq (aA (fD (aF gU (af 2) bK (aH _)) bK (bj (aa (af 1) (aa (cy aJ (af 2) ak) (aa (cy aJ (af 2) ak) aj)))))))))),?_⟩
 have hm:=jq;have hb:=sJ x;refine⟨_,Z,x,Z,oo,fun H1 s1=>?_⟩;generalize cG x=kd at hO k
 obtain⟨f,fd,hv,F,hk,hbd⟩:∃(f:Addr) (fd:FuncData),b7 ([(.inr "names",.ref t.JO),(.inr "take",.ref t.a67),(.inr "give",.ref t.a69),(.inr "lean",.ref t.a68),(.inr "keep",.ref t.a71),(.inr "pour",.ref t.TL),(.inr "back",.ref t.a73),(.inr "again",.ref t.a73),(.inr "ask",.ref t.a69),(.inr "lost",.ref t.a70),(.inr "worlds",.ref t.a73)]:List (Key×V)) (Sum.inr kd:Key)=some (V.ref f)/\FO P w K mg base 5 f fd ["text"] (spF O)/\W.keepIn K (.ref f)=true/\Binds K fd ["text"] []:=by
  unfold iW at hO
  split at hO
  ·rename_i e
   cases hO;subst e;exact⟨t.a67,t.d67,kr,(Ib T).mono odz,T.q67.k,T.q67.b⟩
  split at hO
  ·rename_i e
   cases hO;rcases e with e|e
   ·subst e
    exact⟨t.a69,t.d69,kr,(xx T).mono odz,T.q69.k,T.q69.b⟩
   subst e;exact⟨t.a69,t.d69,kr,(xx T).mono odz,T.q69.k,T.q69.b⟩
  split at hO
  ·rename_i e
   cases hO;subst e;exact⟨t.a68,t.d68,kr,(Ie T).mono odz,T.q68.k,T.q68.b⟩
  split at hO
  ·rename_i e
   cases hO;subst e;exact⟨t.a71,t.d71,kr,(Ia T).mono odz,T.q71.k,T.q71.b⟩
  split at hO
  ·rename_i e
   cases hO;rcases e with e|e|e
   ·subst e
    exact⟨t.a73,t.d73,kr,(qY T).mono odz,T.q73.k,T.q73.b⟩
   ·subst e
    exact⟨t.a73,t.d73,kr,(qY T).mono odz,T.q73.k,T.q73.b⟩
   subst e;exact⟨t.a73,t.d73,kr,(qY T).mono odz,T.q73.k,T.q73.b⟩
  split at hO
  ·rename_i e
   cases hO;subst e;exact⟨t.a70,t.d70,kr,(Ig T).mono odz,T.q70.k,T.q70.b⟩
  cases hO
 refine⟨_,Z,.inr kd,Z,Z,_,Z,?_⟩;rw[hv];refine bu ?_;refine⟨_,Z,.inr kd,V.ref f,Z,Z,hv,f,CX1 P w,5,fd,["text"],spF O,_,Z,F,hr,hk,hbd,aM,_,Z,x,Z,oo,fun H2 s2=>⟨bJ x,Z,oo,fun r H3 s3 D3=>?_⟩⟩;have iP:=bI s1 (bI s2 s3);cases ho:O (bJ x)with
 | none =>
  rw[ho]at D3 k;have D3:r=.non:=D3;subst D3;exact⟨_,Z,Z,_,Z,aQ (fun _=>k _ _ iP rfl) (fun z=>absurd (cS rfl) z)⟩
 | some pr =>
  obtain⟨g_,ts⟩:=pr;rw[ho]at D3 k;obtain⟨q,l,rfl,hq,hl⟩:=D3;refine⟨_,rfl,rfl,_,rfl,aQ (fun z=>absurd (en z) (by intro z;cases z)) (fun _=>?_)⟩;refine⟨_,Z,_,Z,q,_,0,g_,Z,Z,SqT.of hq,Z,_,Z,q,_,1,.ref l,Z,Z,SqT.of hq,Z,(by show 3<=sizeLine;decide),fun m w_=>?_⟩;exact k _ _ (bI iP (aX w_)) ⟨m,l,rfl,au,aX w_ _ _ hl⟩
theorem Nv:("\n":Str)=⟨#[10]⟩:=by decide +kernel
def ie(x:Str):List (Nat×Str):=(Txt.split x "\n").zipIdx.map fun p=>(p.2,gJ p.1)
def qb(x:Str):List (Nat×Str):=(ie x).filter fun(r:Nat×Str)=>!decide (r.2="")
def mw(H:Hp)(v:V)(r:Nat×Str):Prop:=∃ q,v=.ref q/\H q=some (.tup [.int (r.1:Int),.str r.2])
theorem mw.mono(s:∀ b o,H b=some o->H' b=some o){r:Nat×Str}:mw H v r->mw H' v r:=fun⟨q,h1,h2⟩=>⟨q,h1,s _ _ h2⟩
inductive yn(vs:List V)(H:Hp)(Q:VK)(E:XK):Prop
 |mk(x:_)(_:vs=[.str x])(_:x.length<=gj)(_:∀ p us H',(∀ b o,H b=some o->H' b=some o)->H' p=some (.lst us)->Paired (mw H') us (qb x)->Q (.ref p) H')
theorem Ff(x:Str):(ie x).length=(Txt.split x "\n").length:=by
 unfold ie;rw[dS,List.length_zipIdx]
theorem Ih{s:Str} (h:(Txt.split x "\n")[i]?=some s):(ie x)[i]?=some (i,gJ s):=by
 unfold ie;rw[kT,List.getElem?_zipIdx,h];simp
theorem Fg(T:Txt P w K mg t):FM P w base T.q57 1 yn:=by
 refine T.q57.F.eK (N:=["text","rows"]) eo ?_;rintro nd _ _ _ _ H vs Q E hr ⟨x,rfl,hx,k⟩
 refine⟨_,(ao (iR (i:=1) rfl ["place","row"] [none,none] nd rfl rfl (Bh (bY PySem.F.plainAttrs_str PySem.F.slot_str_split PySem.F.type_str_split wO (af 0) (aa az aj)) T.zm) kr (fun _ _ _ _ _ _=>(jg (K:=K) (n:=2) rfl rfl (bG (g6 0 (kF (l:=["place","row"]))) (bG (g6 1 (kF (l:=["place","row"]))) eO)))) (fun _ _ _ _ _ _=>cM) (fun _ _ _ _ _ _=>(bj (aa (af 0) (aa (Dn (K:=K) rfl PySem.F.plainAttrs_str PySem.F.slot_str_strip PySem.F.type_str_strip oR (af 1) (aa az aj)) aj)))))
   (aq (aA (bW rfl ["pair"] [none] (cJ (af 1)) kr (fun _ _ _ _ _ _=>(g6 0 (kF (l:=["pair"])))) (fun _ _ _ _ _ _=>gr (aF gZ (cy (jX (K:=K)) (af 0) ak) az (aH _))) (fun _ _ _ _ _ _=>(af 0)))))),?_⟩
 have hm:=jq;have hsl:=oj x "\n";refine⟨_,Z,Z,x,_,Z,Z,(by rw[Nv];decide),oo,oo,fun p hp=>?_⟩;have s1:=aX (o:=.lst ((Txt.split x "\n").map V.str)) hp;have hp1:(upd H p (.lst ((Txt.split x "\n").map V.str))) p=some (.lst ((Txt.split x "\n").map V.str)):=au;generalize upd H p (.lst ((Txt.split x "\n").map V.str))=H1 at s1 hp1 ⊢;have oS:=Ff x;refine⟨p,Z,⟨_,SqL.of hp1⟩,?_⟩;refine Dr (K:=K) (a:=p) (xs:=(Txt.split x "\n").map V.str) (fun i ys H'=>(∀ b o,H1 b=some o->H' b=some o)/\Paired (mw H') ys ((ie x).take i)) ⟨fun _ _ e=>e,.nil⟩ (by rw[dS];exact oo) (fun i ys H' ⟨_,e⟩=>by rw[bg e,bE];exact oo) (fun i ys H' ⟨s',_⟩=>SqL.of (s' _ _ hp1)) ?_ ?_
 ·rintro i y ys H2 hi ⟨s2,hP⟩ e he
  rw[kT]at hi
  obtain⟨c,hc,rfl⟩:∃ c,(Txt.split x "\n")[i]?=some c/\y=V.str c:=by
   cases q:(Txt.split x "\n")[i]? with
   |none=>rw[q]at hi;cases hi
   |some c=>rw[q]at hi;exact⟨c,Z,(iE hi).symm⟩
  have BS:c.length<=sizeLine:=by have:=PyProof.Rows.part_short (qh hc);exact oo
  have s3:=aX (o:=.tup [.int (i:Int),.str c]) he;refine⟨e,_,Z,SqT.of au,Z,_,_,Z,_,_,Z,Z,trivial,?_⟩;refine⟨_,Z,_,Z,Z,c,_,Z,Z,BS,xB,fun m w_=>?_⟩;have s4:=aX (o:=.tup [.int (i:Int),.str (Txt.stripChars c " ")]) w_;refine⟨bI s2 (bI s3 s4),?_⟩;rw[pj,Ih hc];exact dg (Paired.gV hP fun _ _ z=>mw.mono (bI s3 s4) z) (.cons ⟨m,rfl,au⟩ .nil)
 rintro ys H2 ⟨s2,hP⟩ l hl;rw[dS,<- oS,bS]at hP;have s3:=aX (o:=.lst ys) hl;have BQ:(upd H2 l (.lst ys)) l=some (.lst ys):=au;have VQ:=Paired.gV hP fun _ _ z=>mw.mono s3 z
 generalize upd H2 l (.lst ys)=H3 at s3 BQ VQ ⊢;have iP:=bI s1 (bI s2 s3);have Mo:=bg hP;refine⟨_,Z,l,Z,⟨_,SqL.of BQ⟩,?_⟩
 refine fU (K:=K) (a:=l) (xs:=ys) (fun i zs H'=>H'=H3/\Paired (mw H3) zs (((ie x).take i).filter fun(r:Nat×Str)=>!decide (r.2=""))) ⟨rfl,.nil⟩ oo (fun i zs H' ⟨_,e⟩=>by
  rw[bg e];have:=cn (fun r:Nat×Str=>!decide (r.2="")) ((ie x).take i);rw[bE]at this
  exact oo) (fun i zs H' ⟨e,_⟩=>by subst e;exact SqL.of BQ) ?_ ?_
 ·rintro i v zs H' hi ⟨e,hZ⟩
  subst e;obtain⟨r,ro,q,rfl,hq⟩:=bN VQ i v hi
  have et:((ie x).take (i+1)).filter (fun(r:Nat×Str)=>!decide (r.2=""))=((ie x).take i).filter (fun(r:Nat×Str)=>!decide (r.2=""))++(if r.2="" then []else [r]):=by
   rw[pj,ro,cE]
   congr 1
   show List.filter _ [r]=_
   by_cases h:r.2=""
   ·rw[b6 h,de (by rw[cS h];decide)]
    rfl
   rw[bq h,da (by rw[gp h];rfl)]
   rfl
  refine⟨trivial,_,Z,q,_,1,.str r.2,Z,Z,SqT.of hq,Z,Z,_,Z,aQ (fun z=>?_) (fun z=>?_)⟩
  ·have z:¬r.2="":=fun e=>by rw[e,cS rfl]at z;cases z
   refine⟨_,Z,Z,?_⟩;rw[et,bq z];exact dg hZ (.cons ⟨q,rfl,hq⟩ .nil)
  have z:r.2="":=dP fun e=>z (by rw[gp (fun q=>e (V.str.inj q))];rfl)
  refine⟨Z,?_⟩;rw[et,b6 z,bX];exact hZ
 rintro zs H' ⟨e,hZ⟩ l2 ko;subst e;have el:ys.length=(ie x).length:=Mo;rw[el,bS]at hZ;exact k l2 zs _ (bI iP (aX ko)) au (Paired.gV hZ fun _ _ z=>mw.mono (aX ko) z)
inductive C7(vs:List V)(H:Hp)(Q:VK)(E:XK):Prop
 |mk(x:_)(_:vs=[.str x])(_:x.length<=gj)(_:cG x="names")(_:fO (dw (bJ x))=true)(_:∀ q p l H',(∀ b o,H b=some o->H' b=some o)->H' q=some (.tup [.str "names",.ref p,.ref l])->H' p=some (.tup ((dw (bJ x)).map V.str))->Q (.ref q) H')
inductive qE(vs:List V)(H:Hp)(Q:VK)(E:XK):Prop
 |mk(l:Addr)(v:V)(us:List V)(i:Nat)(x:Str)(_:vs=[.ref l])(_:H l=some (.lst (v::us)))(_:us.length<=gj)(_:mw H v (i,x))(_:x.length<=gj)(_:cG x="names")(_:fO (dw (bJ x))=true)(_:∀ p H',(∀ b o,H b=some o->H' b=some o)->H' p=some (.tup ((dw (bJ x)).map V.str))->Q (.ref p) H')
theorem Ii(T:Txt P w K mg t):FM P w base T.q74 6 C7:=by
 refine T.q74.F.eK (k:=5) xF ?_;rintro nd _ _ _ _ _ _ _ _ hr ⟨x,rfl,hx,hO,hB,k⟩;have hu:=fX hr
 refine⟨_,(ao (eT 1 nd (dn T.q59 (nC T) hr aM (aa (af 0) aj)))
   (ao (aR (rF (oO T.zo (af 1) (fH (v:=.ref t.zo) T.zE rfl)))
    (aq (aA bK))
    aO)
   (ao (eT 2 nd (m7 (jh T.zo hu (fH (v:=.ref t.zo) T.zE rfl) (af 1) (fun _ _=>rfl)) (aa (dn T.q60 (nF T) hr aM (aa (af 0) aj)) aj)))
   (aq (aA (fD (aF gU (af 2) bK (aH _)) bK (bj (aa (af 1) (aa (cy aJ (af 2) ak) (aa (cy aJ (af 2) ak) aj)))))))))),?_⟩
 have hm:=jq;have hb:=sJ x;refine⟨_,Z,x,Z,oo,fun H1 s1=>?_⟩;generalize cG x=kd at hO;subst hO;have hv:b7 ([(.inr "names",.ref t.JO),(.inr "take",.ref t.a67),(.inr "give",.ref t.a69),(.inr "lean",.ref t.a68),(.inr "keep",.ref t.a71),(.inr "pour",.ref t.TL),(.inr "back",.ref t.a73),(.inr "again",.ref t.a73),(.inr "ask",.ref t.a69),(.inr "lost",.ref t.a70),(.inr "worlds",.ref t.a73)]:List (Key×V)) (Sum.inr "names" : Key)=some (V.ref t.JO):=by kernel_rfl
 refine⟨_,Z,.inr "names",Z,Z,_,Z,?_⟩;rw[hv];refine bu ?_;refine⟨_,Z,.inr "names",V.ref t.JO,Z,Z,hv,t.JO,CX1 P w,5,t.Yv,["text"],qS,_,Z,(Fd T).mono odz,hr,T.q65.k,T.q65.b,aM,_,Z,x,Z,oo,fun H2 s2=>⟨bJ x,Z,oo,fun r H3 s3 D3=>?_⟩⟩;have iP:=bI s1 (bI s2 s3);rw[hB,b6 rfl]at D3;obtain⟨p,⟨q,l,rfl,hq,hl⟩,hp⟩:=D3;refine⟨_,rfl,rfl,_,rfl,aQ (fun z=>absurd (en z) (by intro z;cases z)) (fun _=>?_)⟩;refine⟨_,Z,_,Z,q,_,0,.ref p,Z,Z,SqT.of hq,Z,_,Z,q,_,1,.ref l,Z,Z,SqT.of hq,Z,(by show 3<=sizeLine;decide),fun m w_=>?_⟩;exact k m p l _ (bI iP (aX w_)) au (aX w_ _ _ hp)
theorem yu:b_ ["rows","form"] ["rows"] (aV Ua):=eo
theorem xG(T:Txt P w K mg t):FM P w base T.q89 7 qE:=by
 refine T.q89.F.eK (k:=6) yu ?_;rintro nd _ _ _ _ H vs Q E hr ⟨l,v,us,i,x,rfl,hl,E6,⟨qv,rfl,hqv⟩,hx,hk,hB,k⟩
 refine⟨_,(ao (aR (aF aU (aZ aW T.zd Bt.len (aa (af 0) aj)) ak (aH _))
    (aq qF)
    aO)
   (ao (eT 1 nd (dn T.q74 (Ii T) hr aM (aa (cy aJ (cy bB (af 0) ak) ak) aj)))
   (ao (aR (PW.pt (eX (aF gU (af 1) bK (aH _)) (gk (aF gZ (cy aJ (af 1) ak) az (aH _)))))
    (aq qF)
    aO)
   (aq (aA (cy aJ (af 1) ak)))))),?_⟩
 have hm:=jq;refine⟨_,Z,l,_,Z,.inl (SqL.of hl),Z,_,Z,aQ (fun z=>absurd (V.int.inj (en z)) (by show ¬((us.length+1:Nat):Int)=0;exact oo)) (fun _=>?_)⟩;refine⟨_,Z,l,_,0,.ref qv,Z,Z,SqL.of hl,bR (j:=0) rfl,qv,_,1,.str x,Z,Z,SqT.of hqv,Z,x,Z,hx,hk,hB,fun q p l2 H1 s1 hq hp=>?_⟩;refine⟨_,rfl,rfl,_,rfl,aQ (fun z=>absurd (en z) (by intro z;cases z)) (fun _=>?_)⟩;refine⟨_,Z,q,_,0,_,Z,Z,SqT.of hq,Z,Z,_,Z,aQ (fun z=>absurd z (by rw[cS rfl];decide)) (fun _=>?_)⟩;exact⟨_,Z,q,_,1,.ref p,Z,Z,SqT.of hq,Z,k p H1 s1 hp⟩
def sO(i:Int):Str:=if i=0 then "open" else if 0<i then("held ":Str)++(toString i:String)else("denied ":Str)++(toString (-i):String)
def pK(rs:List Int)(ns:List Str)(tr:Tr):Str:=match aN (sel rs (aC ns tr)),aN (sel rs (aP ns tr))with
 |none,_ => "always"
 |some _,none => "never"
 |some m,some y=>sO (m-y)
inductive LY(vs:List V)(H:Hp)(Q:VK)(E:XK):Prop
 |mk(a p r l:Addr)(rs:List Int)(v:V)(us:List V)(ns:List Str)(tr:Tr)(_:vs=[.ref a,.ref l])(_:cb H a p r rs)(_:H l=some (.lst (v::us)))(_:Fits H p v ns tr)(_:(∀ x∈tr.names,x∈ns))(_:(∀ m y,aN (sel rs (aC ns tr))=some m->aN (sel rs (aP ns tr))=some y->(m-y).natAbs.log2<1920))(_:∀ H',aT H H'->Q (.str (pK rs ns tr)) H')
theorem nZ{M:Addr}(h:L2.under K C M=true):(lU K C).isSome=true:=by
 unfold L2.under at h;cases e:lU K C with
 |none=>rw[e]at h;cases h
 |some b=>rfl
theorem Pj:b_ ["mind","trees","lean"] ["mind","trees"] (aV Ug):=eo
theorem Nx(T:Txt P w K mg t):FM P w base T.q83 121 LY:=by
 refine T.q83.F.eK (k:=120) Pj ?_;rintro nd _ _ _ _ H vs Q E hr ⟨a,p,r,l,rs,v,us,ns,tr,rfl,hm,hl,hf,hall,sT,k⟩
 refine⟨_,(ao (yR (wH (Kd (i:=2) nd rfl (Or.inl rfl) (Nh T.q22 (Kv T) hr (aa (af 0) (aa (cy bB (af 1) ak) aj)))))
    (.cons T.zJ T.zS kr kr (fun e=>(aq (aA az))) (.cons T.zL T.zT kr kr (fun e=>(aq (aA az))) .nil)))
   (ao (aR (aF aU (af 2) ak (aH _))
    (aq (aA az))
    aO)
   (aq (aA (fD (aF mW (af 2) ak (aH _)) (aD bh az (dj gF T.zt Bt.str (aa (af 2) aj))) (aD bh az (dj gF T.zt Bt.str (aa (mR j9 (af 2)) aj)))))))),?_⟩
 unfold pK at k;refine⟨_,Z,_,Z,l,_,0,v,Z,Z,SqL.of hl,bR (j:=0) rfl,a,p,r,rs,v,ns,tr,Z,hm,hf,fun _=>?_,fun z=>absurd hall z⟩;cases ho:aN (sel rs (aC ns tr))with
 | none =>
  rw[ho]at k;exact fun H1 s1=>⟨t.zh,rfl,nZ T.UK,.inl ⟨T.UK,k H1 s1⟩⟩
 | some m =>
  rw[ho]at k;cases hk:aN (sel rs (aP ns tr))with
  | none =>
   rw[hk]at k;exact fun H1 s1=>⟨t.zi,rfl,nZ T.UJ,.inr ⟨T._b,.inl ⟨T.UJ,k H1 s1⟩⟩⟩
  | some y =>
   rw[hk]at k;have AN:=sT m y ho hk;intro H1 s1;have k1:Q (.str (sO (m-y))) H1:=k H1 s1;generalize m-y=i at AN k1;unfold sO at k1;refine⟨_,Z,Z,_,Z,aQ (fun z=>?_) (fun z=>?_)⟩
   ·rw[b6 (V.int.inj (en z))]at k1
    exact k1
   have z:¬i=0:=fun e=>z (cS (by rw[e]))
   rw[bq z]at k1;refine⟨_,Z,_,_,Z,Z,_,Z,aQ (fun g=>?_) (fun g=>?_)⟩
   ·have g:0<i:=en g
    rw[b6 g]at k1;refine⟨_,Z,i,Z,AN,_,_,Z,Z,?_,k1⟩;have:=fI AN;have e5:("held ":Str).length=5:=by decide +kernel
    rw[e5];exact fA (e_ this 5) odz
   have g:¬0<i:=fun e=>g (cS e)
   rw[bq g]at k1;refine⟨_,Z,_,Z,-i,Z,by rw[oI];exact AN,_,_,Z,Z,?_,k1⟩;have:=fI (i:=-i) (by rw[oI];exact AN);have e7:("denied ":Str).length=7:=by decide +kernel
   rw[e7];exact fA (e_ this 7) odz
def fj(n:Nat)(wd:Nat):Str:=Txt.join ("":Str) ((List.range n).map fun(i:Nat)=>((toString ((dm wd i:Nat):Int):String):Str))
inductive Cn(vs:List V)(H:Hp)(Q:VK)(E:XK):Prop
 |mk(p:Addr)(ns:List Str)(wd:Nat)(_:vs=[.ref p,.int (wd:Int)])(_:H p=some (.tup (ns.map V.str)))(_:ns.length<=8)(_:∀ H',aT H H'->Q (.str (fj ns.length wd)) H')
theorem jJ(wd i:Nat):((toString ((dm wd i:Nat):Int):String):Str).length=1/\(((dm wd i:Nat):Int)).natAbs.log2<1920:=by
 unfold dm
 split<;>exact⟨dk,dk⟩
theorem xH(T:Txt P w K mg t):FM P w base T.q82 2 Cn:=by
 refine T.q82.F.eK (N:=["names","world"]) eo ?_;rintro nd _ _ _ _ _ _ _ _ hr ⟨p,ns,wd,rfl,hp,h8,k⟩;refine⟨_,(aq (aA (bY PySem.F.plainAttrs_str PySem.F.slot_str_join PySem.F.type_str_join jW az (aa (bW rfl ["place","world"] [none,some 1] (gw T.zp (aa (aZ aW T.zd Bt.len (aa (af 0) aj)) aj)) kr (fun _ _ _ _ _ _=>(g6 0 (kF (l:=["place","world"])))) (fun _ _ _ _ _ _=>cM) (fun _ _ _ _ _ _=>(dj gF T.zt Bt.str (aa (dn T.q6 (oY T) hr aM (aa (g5 1) (aa (af 0) aj))) aj)))) aj)))),?_⟩;have el:(ns.map V.str).length=ns.length:=dS _;refine⟨Z,_,Z,p,_,Z,.inr (SqT.of hp),_,Z,oo,by rw[el];exact oo,?_⟩;rw[bo,el];refine cZ (lo:=0) (n:=ns.length) (fun i=>V.str (toString ((dm wd i:Nat):Int):String)) (fA h8 odz) (fun i R hi hR=>⟨⟨rfl,trivial⟩,_,rfl,_,rfl,wd,i,(by show [V.int (wd:Int),V.int (0+(i:Int))]++[]=_;rw[fz];rfl),_,rfl,(jJ wd i).2,hR⟩) fun l hl=>?_
 have em:((List.range ns.length).map fun i=>V.str (toString ((dm wd i:Nat):Int):String))=(((List.range ns.length).map fun(i:Nat)=>((toString ((dm wd i:Nat):Int):String):Str)).map V.str):=by
  rw[eD]
  rfl
 rw[em];refine⟨_,l,_,Z,Z,SqL.of au,?_,k _ (aB hl)⟩
 have es:∀ m:Nat,((((List.range m).map fun(i:Nat)=>((toString ((dm wd i:Nat):Int):String):Str)).map (·.length)).sum)=m:=by
  intro m
  induction m with
  |zero=>rfl
  | succ m ih =>
   rw[c9,ax,ax,A',ih];show m+((((toString ((dm wd m:Nat):Int):String):Str).length)+0)=m+1;rw[(jJ wd m).1]
 rw[es,dS,b5];have e0:("":Str).length=0:=rfl;rw[e0,Nat.mul_zero];exact oo
def cf(lg kp al ml:Addr):List (Str×V):=bc "minds_behind" (.ref ml) (bc "answers" (.ref al) (bc "kept" (.ref kp) (bc "log" (.ref lg) [])))
theorem sS(lg kp al ml:Addr):(cf lg kp al ml).lookup ("log":Str)=some (.ref lg):=by
 unfold cf;rw[bC,bq dk,bC,bq dk,bC,bq dk,bC,b6 rfl]
theorem JG(lg kp al ml:Addr):(cf lg kp al ml).lookup ("answers":Str)=some (.ref al):=by
 unfold cf;rw[bC,bq dk,bC,b6 rfl]
theorem JH(lg kp al ml:Addr):(cf lg kp al ml).lookup ("minds_behind":Str)=some (.ref ml):=by
 unfold cf;rw[bC,b6 rfl]
structure CA where
 (c cx p dx sl kp al ml:Addr)
structure ke(t:ku)(H:Hp)(g:CA)(bl:Addr)(mv bv:List V)(xs:List Str)(ms:List V):Prop where
 co:H g.c=some (.ins t.zb g.cx (cf g.p g.kp g.al g.ml))
 lg:fR t.zc H g.p g.dx g.sl bl mv bv
 an:H g.al=some (.lst (xs.map V.str))
 mb:H g.ml=some (.lst ms)
 n1:g.al≠g.sl
 n2:g.al≠bl
 n3:g.ml≠g.sl
 n4:g.ml≠bl
 n5:g.al≠g.ml
 n6:g.p≠g.c
def gz(g:CA)(H H':Hp):Prop:=∀ b o,H b=some o->b≠g.p->b≠g.sl->b≠g.al->b≠g.ml->H' b=some o
theorem fR.other{p:Addr}(U:fR C H p dx sl bl mv bv){c:Addr}(h1:p≠c)(h2:sl≠c)(h3:bl≠c):fR C (upd H c o) p dx sl bl mv bv :=
 ⟨by rw[aG h1];exact U.ob,U.ne,by rw[aG h2];exact U.st,by rw[aG h3];exact U.tb⟩
theorem cb.mh{r:Addr}(h:cb H a np r rs){c:Addr}{u:HO}(hc:H c=some u)(hu:∀ xs,u≠.tup xs):cb (upd H c o) a np r rs :=
 ⟨by rw[aG (bF h.1 hc (fun z=>hu _ z.symm))];exact h.1,by rw[aG (bF h.2.1 hc (fun z=>hu _ z.symm))];exact h.2.1,h.2.2⟩
theorem cb.same(s:aT H H'){r:Addr}(h:cb H a np r rs):cb H' a np r rs:=⟨s _ _ h.1,s _ _ h.2.1,h.2.2⟩
def cD(ns:List Str):List Int:=List.replicate (2^ns.length) (0:Int)
inductive Dx(t:ku)(vs:List V)(H:Hp)(Q:VK)(E:XK):Prop
 |mk(c cx np:Addr)(ns:List Str)(_:vs=[.ref c,.ref np])(_:H c=some (.ins t.zb cx []))(_:H np=some (.tup (ns.map V.str)))(_:1<=ns.length)(_:ns.length<=8)(_:∀(p dx sl kp al ml bl m r:Addr)(H':Hp),ke t H' ⟨c,cx,p,dx,sl,kp,al,ml⟩ bl [.ref m] [] [] []->cb H' m np r (cD ns)->H p=none->H sl=none->H al=none->H ml=none->(∀ b o,H b=some o->b≠c->H' b=some o)->Q .non H')
theorem K1:b_ ["self","names"] ["self","names"] (aV Uk):=eo
theorem Ij(T:Txt P w K mg t):Fm P w mg base T.q75 5 (Dx t):=by
 refine T.q75.F.eK (k:=4) K1 ?_;rintro nd _ _ _ _ H _ _ _ hr ⟨c,cx,np,ns,rfl,hc,hn,h1,h8,k⟩
 refine⟨_,(ao (iQ (af 0) (Jt T._h (Hr T) (hr.mo) T.ZQ T.q33.b aM (aa (af 1) aj)) rfl)
   (ao (iQ (af 0) qJ rfl)
   (ao (iQ (af 0) (bz aj) rfl)
   (aq (iQ (af 0) (bz aj) rfl))))),?_⟩
 refine⟨_,Z,fun p dx hp IM hpd=>?_⟩;have Md:c≠p:=aK hc hp;have ncd:c≠dx:=aK hc IM;refine⟨p,dx,np,ns,Z,au,by rw[aG (aK hn hp),aG (aK hn IM)];exact hn,h1,h8,fun sl bl m r H1 hsl xa U hm keep=>⟨Z,?_⟩⟩;have k1:aT H H1:=fun b o e=>keep b o (by rw[aG (aK e hp),aG (aK e IM)];exact e) (aK e hp)
 have nsl:H sl=none:=by
  by_cases e:sl=p
  ·rw[e];exact hp
  by_cases e2:sl=dx
  ·rw[e2];exact IM
  rw[aG e,aG e2]at hsl;exact hsl
 have D9:=k1 _ _ hc;have PZ:c≠sl:=bF D9 U.st;have P1:c≠bl:=bF D9 U.tb;have il:∀ xs:List V,HO.ins t.zb cx []≠.tup xs:=fun xs z=>by cases z
 refine⟨_,Z,c,t.zb,cx,_,Z,D9,T.zk,T.zz,(by show 0<1000;decide),?_⟩;have U2:=U.other (c:=c) (o:=.ins t.zb cx (bc "log" (.ref p) [])) (ba Md) (ba PZ) (ba P1);have nc:=hm.mh (c:=c) (o:=.ins t.zb cx (bc "log" (.ref p) [])) D9 (fun xs z=>by cases z);have sv:(upd H1 c (.ins t.zb cx (bc "log" (.ref p) []))) c=some (.ins t.zb cx (bc "log" (.ref p) [])):=au;have k2:∀ b o,H b=some o->b≠c->(upd H1 c (.ins t.zb cx (bc "log" (.ref p) []))) b=some o:=fun b o e hb=>by rw[aG hb];exact k1 _ _ e
 generalize upd H1 c (.ins t.zb cx (bc "log" (.ref p) []))=H2 at U2 nc sv k2 ⊢;intro kp QD;have s3:=aB (o:=.dK []) QD;have nck:c≠kp:=aK sv QD;refine⟨_,Z,c,t.zb,cx,_,Z,s3 _ _ sv,T.zk,T._c,(by show 1<1000;decide),?_⟩;have U3:=(U2.mono s3).other (c:=c) (o:=.ins t.zb cx (bc "kept" (.ref kp) (bc "log" (.ref p) []))) (ba Md) (ba PZ) (ba P1);have rq:=(nc.same s3).mh (c:=c) (o:=.ins t.zb cx (bc "kept" (.ref kp) (bc "log" (.ref p) []))) (s3 _ _ sv) (fun xs z=>by cases z);have Ll:(upd (upd H2 kp (.dK [])) c (.ins t.zb cx (bc "kept" (.ref kp) (bc "log" (.ref p) [])))) c=some (.ins t.zb cx (bc "kept" (.ref kp) (bc "log" (.ref p) []))):=au;have k3:∀ b o,H b=some o->b≠c->(upd (upd H2 kp (.dK [])) c (.ins t.zb cx (bc "kept" (.ref kp) (bc "log" (.ref p) [])))) b=some o:=fun b o e hb=>by rw[aG hb];exact s3 _ _ (k2 _ _ e hb)
 generalize upd (upd H2 kp (.dK [])) c (.ins t.zb cx (bc "kept" (.ref kp) (bc "log" (.ref p) [])))=H3 at U3 rq Ll k3 ⊢;refine⟨lk obz,fun al oS=>?_⟩;have s4:=aB (o:=.lst []) oS;have RD:c≠al:=aK Ll oS
 have nal:H al=none:=by
  cases e:H al with
  |none=>rfl
  |some o=>rw[k3 al o e (ba RD)]at oS;cases oS
 have _W:al≠sl:=fun z=>by rw[z,U3.st]at oS;cases oS
 have _X:al≠bl:=fun z=>by rw[z,U3.tb]at oS;cases oS
 refine⟨_,Z,c,t.zb,cx,_,Z,s4 _ _ Ll,T.zk,T.zN,(by show 2<1000;decide),?_⟩;have U4:=(U3.mono s4).other (c:=c) (o:=.ins t.zb cx (bc "answers" (.ref al) (bc "kept" (.ref kp) (bc "log" (.ref p) [])))) (ba Md) (ba PZ) (ba P1);have AL:=(rq.same s4).mh (c:=c) (o:=.ins t.zb cx (bc "answers" (.ref al) (bc "kept" (.ref kp) (bc "log" (.ref p) [])))) (s4 _ _ Ll) (fun xs z=>by cases z);have QJ:(upd (upd H3 al (.lst [])) c (.ins t.zb cx (bc "answers" (.ref al) (bc "kept" (.ref kp) (bc "log" (.ref p) []))))) c=some (.ins t.zb cx (bc "answers" (.ref al) (bc "kept" (.ref kp) (bc "log" (.ref p) [])))):=au;have SH:(upd (upd H3 al (.lst [])) c (.ins t.zb cx (bc "answers" (.ref al) (bc "kept" (.ref kp) (bc "log" (.ref p) []))))) al=some (.lst []):=by rw[aG (ba RD),au]
 have k4:∀ b o,H b=some o->b≠c->(upd (upd H3 al (.lst [])) c (.ins t.zb cx (bc "answers" (.ref al) (bc "kept" (.ref kp) (bc "log" (.ref p) []))))) b=some o:=fun b o e hb=>by rw[aG hb];exact s4 _ _ (k3 _ _ e hb)
 generalize upd (upd H3 al (.lst [])) c (.ins t.zb cx (bc "answers" (.ref al) (bc "kept" (.ref kp) (bc "log" (.ref p) []))))=H4 at U4 AL QJ SH k4 ⊢;refine⟨lk obz,fun ml qk=>?_⟩;have s5:=aB (o:=.lst []) qk;have U9:c≠ml:=aK QJ qk
 have nml:H ml=none:=by
  cases e:H ml with
  |none=>rfl
  |some o=>rw[k4 ml o e (ba U9)]at qk;cases qk
 have _R:ml≠sl:=fun z=>by rw[z,U4.st]at qk;cases qk
 have _S:ml≠bl:=fun z=>by rw[z,U4.tb]at qk;cases qk
 have _T:al≠ml:=aK SH qk;refine⟨_,Z,c,t.zb,cx,_,Z,s5 _ _ QJ,T.zk,T.zO,(by show 3<1000;decide),?_⟩;refine k p dx sl kp al ml bl m r _ ⟨au,(U4.mono s5).other (ba Md) (ba PZ) (ba P1),?_,?_,_W,_X,_R,_S,_T,ba Md⟩ ((AL.same s5).mh (s5 _ _ QJ) (fun xs z=>by cases z)) hp nsl nal nml fun b o e hb=>?_
 ·rw[aG (ba RD)]
  exact s5 _ _ SH
 ·rw[aG (ba U9),au]
 rw[aG hb];exact s5 _ _ (k4 _ _ e hb)
def EG(t:Tr):Prop:=t.size<=100000/\t.depth<=110/\(∃ L:List Str,L.length<64/\∀ x∈t.names,x∈L)/\∀ x∈t.names,oX x
theorem EG.fits{p:Addr}{t:Tr}(h:EG t)(hp:H p=some (.tup (ns.map V.str)))(h8:ns.length<=8)(ic:ns.Nodup)(ht:c8 H v t):Fits H p v ns t:=⟨hp,h8,ic,ht,h.1,h.2.1,h.2.2.1,h.2.2.2⟩
def JK(ns:List Str)(rs:List Int)(g_:V)(ts:List Tr)(ka:List Int):Prop:=∃(f:Int)(tr:Tr),g_=.int f/\ts=[tr]/\ka=g8 ns tr rs f/\(aN (sel rs (aC ns tr))=none\/∃ y,aN (sel rs (aP ns tr))=some y)
def JL(ns:List Str)(rs:List Int)(g_:V)(ts:List Tr)(ka:List Int):Prop:=∃(tr:Tr),ts=[tr]/\ka=dh ns tr rs/\∃ x,aN (sel rs (aC ns tr))=some x
def JM(ns:List Str)(rs:List Int)(g_:V)(ts:List Tr)(ka:List Int):Prop:=∃(i:Int)(tr:Tr)(x y:Int),g_=.int i/\ts=[tr]/\aN (sel rs (aC ns tr))=some x/\aN (sel rs (aP ns tr))=some y/\ka=fc rs (aC ns tr) x y i
inductive y7(t:ku)(D:List Str->List Int->V->List Tr->List Int->Prop)(vs:List V)(H:Hp)(Q:VK)(E:XK):Prop
 |mk(g:CA)(bl:Addr)(mv bv:List V)(xs:List Str)(ms:List V)(a np r l:Addr)(rs ka:List Int)(ns:List Str)(g_:V)(us:List V)(ts:List Tr)(_:vs=[.ref g.c,g_,.ref l])(_:ke t H g bl (mv++[.ref a]) bv xs ms)(_:mv.length<=400)(_:cb H a np r rs)(_:eC ns rs)(_:H np=some (.tup (ns.map V.str)))(_:ns.length<=8)(_:ns.Nodup)(_:H l=some (.lst us))(_:Paired (c8 H) us ts)(_:(∀ u∈ts,EG u/\∀ x∈u.names,x∈ns))(_:D ns rs g_ ts ka)(_:∀(b q hX:Addr)(H':Hp),gz g H H'->ke t H' g hX (mv++[.ref a]++[.ref b]) [] xs ms->cb H' b np q ka->Q .non H')
theorem jY{g:CA}{hX:Addr}{U' Yx:List V}{xs:List Str}(U:ke t H g bl mv bv xs ms)(xa:H hX=none)(k:nj g.p g.sl H H')(L:fR t.zc H' g.p g.dx g.sl hX U' Yx):ke t H' g hX U' Yx xs ms/\gz g H H' :=
 ⟨⟨k _ _ U.co (ba U.n6) (bF U.co U.lg.st),L,k _ _ U.an (bF U.an U.lg.ob) U.n1,k _ _ U.mb (bF U.mb U.lg.ob) U.n3,U.n1,aK U.an xa,U.n3,aK U.mb xa,U.n5,U.n6⟩,fun b o e h1 h2 _ _=>k b o e h1 h2⟩
theorem iY{α β:Type}{R:α->β->Prop}{us:List α}{b:β}(h:Paired R us [b]):∃ u,us=[u]/\R u b:=by
 cases h with
 | cons h1 h2 =>
  cases h2;exact⟨_,Z,h1⟩
theorem Ik:b_ ["course","firm","trees"] ["course","firm","trees"] (aV Uj):=eo
theorem Fi(T:Txt P w K mg t):FM P w base T.q76 123 (y7 t JK):=by
 refine T.q76.F.eK (k:=122) Ik ?_;rintro nd _ _ _ _ H _ Q _ hr ⟨g,bl,mv,bv,xs,ms,a,np,r,l,rs,ka,ns,g_,us,ts,rfl,U,nk,hm,hM,kG,h8,ic,hl,hP,hok,⟨f,tr,rfl,rfl,rfl,hD⟩,k⟩;obtain⟨v,rfl,hv⟩:=iY hP;obtain⟨ho,hall⟩:=hok tr qms;refine⟨_,(aq (bA (EZ (bM (af 0) rfl) T.zg T.q35 (Ho T) hr bx (aa (cy bB (af 2) ak) (aa (af 1) aj))))),?_⟩;refine⟨_,Z,g.c,t.zb,g.cx,_,_,Z,U.co,T.zk,T.zz,sS _ _ _ _,g.p,g.dx,_,Z,U.lg.ob,iU _ _ dk dk,_,Z,l,_,0,v,Z,Z,SqL.of hl,bR (j:=0) rfl,_,Z,g.p,g.dx,g.sl,bl,mv,bv,a,np,r,rs,v,ns,tr,f,Z,U.lg,nk,hm,ho.fits kG h8 ic hv,fun _=>?_,fun z=>absurd hall z⟩;have go:∀(b q hX:Addr)(H':Hp),H hX=none->nj g.p g.sl H H'->fR t.zc H' g.p g.dx g.sl hX (mv++[.ref a]++[.ref b]) []->cb H' b np q (g8 ns tr rs f)->Q .non H':=fun b q hX H' hb kp L w_=>k b q hX H' (jY U hb kp L).2 (jY U hb kp L).1 w_
 rcases hD with e|⟨y,e⟩
 ·rw[e]
  exact go
 rw[e];cases aN (sel rs (aC ns tr))with
 |none=>exact go
 |some x=>exact go
theorem Il:b_ ["course","told","trees"] ["course","told","trees"] (aV Ui):=eo
theorem Fj(T:Txt P w K mg t):FM P w base T.q77 123 (y7 t JL):=by
 refine T.q77.F.eK (k:=122) Il ?_;rintro nd _ _ _ _ _ _ _ _ hr ⟨g,bl,mv,bv,xs,ms,a,np,r,l,rs,ka,ns,g_,us,ts,rfl,U,nk,hm,hM,kG,h8,ic,hl,hP,hok,⟨tr,rfl,rfl,x,hx⟩,k⟩;obtain⟨v,rfl,hv⟩:=iY hP;obtain⟨ho,hall⟩:=hok tr qms;refine⟨_,(aq (bA (EZ (bM (af 0) rfl) T.zg T.q36 (Hq T) hr bx (aa (cy bB (af 2) ak) aj)))),?_⟩;refine⟨_,Z,g.c,t.zb,g.cx,_,_,Z,U.co,T.zk,T.zz,sS _ _ _ _,g.p,g.dx,_,Z,U.lg.ob,iU _ _ dk dk,_,Z,l,_,0,v,Z,Z,SqL.of hl,bR (j:=0) rfl,g.p,g.dx,g.sl,bl,mv,bv,a,np,r,rs,v,ns,tr,Z,U.lg,nk,hm,hM,ho.fits kG h8 ic hv,fun _=>?_,fun z=>absurd hall z⟩;rw[hx];exact fun b q hX H' hb kp L w_=>k b q hX H' (jY U hb kp L).2 (jY U hb kp L).1 w_
theorem Im:b_ ["course","lean","trees"] ["course","lean","trees"] (aV Uh):=eo
theorem Fl(T:Txt P w K mg t):FM P w base T.q78 123 (y7 t JM):=by
 refine T.q78.F.eK (k:=122) Im ?_;rintro nd _ _ _ _ H vs Q E hr ⟨g,bl,mv,bv,xs,ms,a,np,r,l,rs,ka,ns,g_,us,ts,rfl,U,nk,hm,hM,kG,h8,ic,hl,hP,hok,⟨i,tr,x,y,rfl,rfl,hx,hy,rfl⟩,k⟩;obtain⟨v,rfl,hv⟩:=iY hP;obtain⟨ho,hall⟩:=hok tr qms;refine⟨_,(aq (bA (EZ (bM (af 0) rfl) T.zg T.q37 (Hu T) hr bx (aa (cy bB (af 2) ak) (aa (af 1) aj))))),?_⟩;refine⟨_,Z,g.c,t.zb,g.cx,_,_,Z,U.co,T.zk,T.zz,sS _ _ _ _,g.p,g.dx,_,Z,U.lg.ob,iU _ _ dk dk,_,Z,l,_,0,v,Z,Z,SqL.of hl,bR (j:=0) rfl,_,Z,g.p,g.dx,g.sl,bl,mv,bv,a,np,r,rs,v,ns,tr,i,Z,U.lg,nk,hm,ho.fits kG h8 ic hv,fun _=>?_,fun z=>absurd hall z⟩;rw[hx,hy];exact fun b q hX H' hb kp L w_=>k b q hX H' (jY U hb kp L).2 (jY U hb kp L).1 w_
def JY(x:Str)(tr:Tr):Prop:=x.length<=sizeLine/\(∀ c∈x.cps.toList,c<16^8)/\vM x=.tree tr
def gR:=List Str->List Int->List Tr->Str->Prop
inductive y_(L:gR)(vs:List V)(H:Hp)(Q:VK)(E:XK):Prop
 |mk(a p r l:Addr)(rs:List Int)(us:List V)(ns:List Str)(ts:List Tr)(txt:Str)(_:vs=[.ref a,.ref l])(_:cb H a p r rs)(_:eC ns rs)(_:H p=some (.tup (ns.map V.str)))(_:ns.length<=8)(_:ns.Nodup)(_:H l=some (.lst us))(_:Paired (c8 H) us ts)(_:(∀ u∈ts,EG u/\∀ x∈u.names,x∈ns))(_:L ns rs ts txt)(_:∀ H',aT H H'->Q (.str txt) H')
def Io:gR:=fun ns rs ts txt=>∃ tr,ts=[tr]/\txt=pK rs ns tr/\∀ m y,aN (sel rs (aC ns tr))=some m->aN (sel rs (aP ns tr))=some y->(m-y).natAbs.log2<1920
def sU(kd:Str):List Str->List Int->V->List Tr->List Int->Prop:=fun ns rs g_ ts ka=>(kd="take"/\JK ns rs g_ ts ka)\/(kd="give"/\JL ns rs g_ ts ka)\/(kd="lean"/\JM ns rs g_ ts ka)
abbrev Ny(t:ku):List (Key×V):=[(.inr "ask",.ref t.QZ),(.inr "lost",.ref t.QY),(.inr "worlds",.ref t.QX)]
abbrev Pk(t:ku):List (Key×V):=[(.inr "take",.ref t.Q2),(.inr "give",.ref t.Q1),(.inr "lean",.ref t.Q0),(.inr "pour",.ref t.YI),(.inr "back",.ref t.YH),(.inr "again",.ref t.YG)]
def vO(P:Program)(w:World)(K:W.Frag)(mg:Str->Option Value)(base:Heap)(t:ku)(AK:Str->gR->Prop):Prop:=∀ kd L,AK kd L->¬kd="keep"/\¬kd="names"/\¬kd="pour"/\∃(f:Addr) (fd:FuncData),b7 (Ny t) (.inr kd)=some (.ref f)/\FO P w K mg base 123 f fd ["mind","trees"] (y_ L)/\W.keepIn K (.ref f)=true/\Binds K fd ["mind","trees"] []
structure Kj(H:Hp)(q:Addr)(kd:Str)(g_:V)(ts:List Tr):Prop where
 ex:∃(l:Addr)(ss:List Str),H q=some (.tup [.str kd,g_,.ref l])/\H l=some (.lst (ss.map V.str))/\Paired JY ss ts/\ss.length<=10
inductive EW(t:ku)(AK:Str->gR->Prop)(vs:List V)(H:Hp)(Q:VK)(E:XK):Prop
 |mk(g:CA)(bl:Addr)(mv bv:List V)(xs:List Str)(ms:List V)(a np r q:Addr)(rs:List Int)(ns:List Str)(kd:Str)(g_:V)(ts:List Tr)(_:vs=[.ref g.c,.ref q])(_:ke t H g bl (mv++[.ref a]) bv xs ms)(_:mv.length<=400)(_:xs.length<=400)(_:ms.length<=400)(_:cb H a np r rs)(_:eC ns rs)(_:H np=some (.tup (ns.map V.str)))(_:ns.length<=8)(_:ns.Nodup)(_:Kj H q kd g_ ts)(_:(∀ u∈ts,EG u/\∀ x∈u.names,x∈ns))(_:((∃ ka,sU kd ns rs g_ ts ka/\∀(b q' hX:Addr)(H':Hp),gz g H H'->ke t H' g hX (mv++[.ref a]++[.ref b]) [] xs (ms++[.ref b])->cb H' b np q' ka->Q .non H')\/(∃ L txt,AK kd L/\L ns rs ts txt/\∀(H':Hp),gz g H H'->ke t H' g bl (mv++[.ref a]) bv (xs++[txt]) ms->cb H' a np r rs->Q .non H')))
theorem ke.mono{t:ku}{H H':Hp}(s:aT H H'){g:CA}{bl:Addr}{mv bv:List V}{xs:List Str}{ms:List V}(U:ke t H g bl mv bv xs ms):ke t H' g bl mv bv xs ms:=⟨s _ _ U.co,U.lg.mono s,s _ _ U.an,s _ _ U.mb,U.n1,U.n2,U.n3,U.n4,U.n5,U.n6⟩
theorem gz.ahead{g:CA}(s:aT H H')(k:gz g H' Q6):gz g H Q6:=fun b o e=>k b o (s _ _ e)
theorem Fo{g:CA}{xs:List Str}(U:ke t H g bl mv bv xs ms)(x:Str):ke t (upd H g.al (.lst (xs.map V.str++[.str x]))) g bl mv bv (xs++[x]) ms/\gz g H (upd H g.al (.lst (xs.map V.str++[.str x]))):=
 ⟨⟨by rw[aG (bF U.co U.an)];exact U.co,U.lg.other (bF U.lg.ob U.an) (ba U.n1) (ba U.n2),by rw[au,ax];rfl,by rw[aG (ba U.n5)];exact U.mb,U.n1,U.n2,U.n3,U.n4,U.n5,U.n6⟩,fun b o e _ _ h _=>by rw[aG h];exact e⟩
theorem Ab{g:CA}{xs:List Str}(U:ke t H g bl mv bv xs ms)(x:V):ke t (upd H g.ml (.lst (ms++[x]))) g bl mv bv xs (ms++[x])/\gz g H (upd H g.ml (.lst (ms++[x]))):=
 ⟨⟨by rw[aG (bF U.co U.mb)];exact U.co,U.lg.other (bF U.lg.ob U.mb) (ba U.n3) (ba U.n4),by rw[aG U.n5];exact U.an,au,U.n1,U.n2,U.n3,U.n4,U.n5,U.n6⟩,fun b o e _ _ _ h=>by rw[aG h];exact e⟩
theorem gz.trans{g:CA}(k:gz g H H')(k':gz g H' Q6):gz g H Q6:=fun b o e h1 h2 h3 h4=>k' b o (k b o e h1 h2 h3 h4) h1 h2 h3 h4
theorem K3(T:Txt P w K mg t):FM P w base T.q83 123 (y_ Io):=((Nx T).mono odz).imp fun vs H Q E h=>by
 obtain⟨a,p,r,l,rs,us,ns,ts,txt,rfl,hm,hM,hp,h8,ic,hl,hP,hok,⟨tr,rfl,rfl,sT⟩,k⟩:=h;obtain⟨v,rfl,hv⟩:=iY hP;obtain⟨ho,hall⟩:=hok tr qms;exact⟨a,p,r,l,rs,v,[],ns,tr,Z,hm,hl,ho.fits hp h8 ic hv,hall,sT,k⟩
theorem K4:b_ ["course","form","kind","trees"] ["course","form"] (aV Uc):=eo
theorem Ip(T:Txt P w K mg t){AK:Str->gR->Prop}(hA:vO P w K mg base t AK):FO P w K mg base 124 t.YF t.Yo ["course","form"] (EW t AK):=by
 have UB:=ni (base:=base) T;refine T.q86.F.eK (k:=123) K4 ?_;rintro nd _ _ _ _ H vs Q E hr ⟨g,bl,mv,bv,xs,ms,a,np,r,q,rs,ns,kd,g_,ts,rfl,U,nk,Vf,AL,hm,hM,kG,h8,ic,⟨l,ss,hq,hl,hP,VU⟩,hok,k⟩;have hu:=fX hr
 refine ⟨_,(ao (eT 2 nd (cy aJ (af 1) ak))
   (ao (iR (i:=3) rfl ["text"] [none] nd rfl rfl (cJ (cy aJ (af 1) ak)) kr (fun _ _ _ _ _ _=>(g6 0 (kF (l:=["text"])))) (fun _ _ _ _ _ _=>cM) (fun _ _ _ _ _ _=>(dn T.q56 (KJ T) hr aM (aa (af 0) aj))))
   (aq (aR (aF aU (af 2) az (aH _))
    (aq (tL hu (bM (af 0) rfl) (cy aJ (af 1) ak) (jL (bM (af 0) rfl) T.zg T.q41 UB hr aM) rfl))
    (aq (aR (rF (Mz T.zx (af 2) (fH (v:=.ref t.zx) T.zU rfl)))
     (aq (bA (bY PySem.F.plainAttrs_list PySem.F.slot_list_append PySem.F.type_list_append cL (bM (af 0) rfl) (aa (m7 (jh T.zx hu (fH (v:=.ref t.zx) T.zU rfl) (af 2) (fun _ _=>rfl)) (aa (jL (bM (af 0) rfl) T.zg T.q41 UB hr aM) (aa (af 3) aj))) aj))))
     (ao (bA (m7 (jh T.zC hu (fH (v:=.ref t.zC) T.ZV rfl) (af 2) (fun _ _=>rfl)) (aa (af 0) (aa (cy aJ (af 1) ak) (aa (af 3) aj)))))
     (aq (bA (bY PySem.F.plainAttrs_list PySem.F.slot_list_append PySem.F.type_list_append cL (bM (af 0) rfl) (aa (jL (bM (af 0) rfl) T.zg T.q41 UB hr aM) aj))))))))))),?_⟩
 refine⟨_,Z,q,_,0,_,Z,Z,SqT.of hq,Z,?_⟩;refine⟨_,Z,q,_,2,_,Z,Z,SqT.of hq,Z,l,Z,⟨_,SqL.of hl⟩,?_⟩;refine fU (K:=K) (a:=l) (xs:=ss.map V.str) (fun i ys H'=>aT H H'/\Paired (c8 H') ys (ts.take i)) ⟨aT.refl _,.nil⟩ (lk (by rw[dS];exact oo)) (fun i ys H' ⟨_,e⟩=>by rw[bg e,bE];exact oo) (fun i ys H' ⟨s',_⟩=>SqL.of (s' _ _ hl)) ?_ ?_
 ·rintro i y ys H1 hi ⟨s1,hY⟩
  rw[kT]at hi
  obtain⟨x,hx,rfl⟩:∃ x,ss[i]?=some x/\y=V.str x:=by
   cases q:ss[i]? with
   |none=>rw[q]at hi;cases hi
   |some c=>rw[q]at hi;exact⟨c,Z,(iE hi).symm⟩
  obtain⟨tr,wm,h1,h2,h3⟩:=bN hP i x hx;refine⟨trivial,_,Z,x,Z,h1,h2,fun H2 s2=>?_⟩;rw[h3];intro v hv;refine⟨s1.trans s2,?_⟩;rw[pj,wm];exact dg (Paired.gV hY fun _ _ z=>z.mono s2.b9) (.cons hv .nil)
 rintro ys H1 ⟨s1,hY⟩ tl htl;have el:(ss.map V.str).length=ts.length:=by rw[dS,bg hP]
 rw[el,bS]at hY;have s2:=s1.trans (aB (o:=.lst ys) htl);have pk:(upd H1 tl (.lst ys)) tl=some (.lst ys):=au;have SJ:Paired (c8 (upd H1 tl (.lst ys))) ys ts:=Paired.gV hY fun _ _ z=>z.mono (aB htl).b9
 generalize upd H1 tl (.lst ys)=H2 at s2 pk SJ ⊢;have U2:=U.mono s2;have hq2:=s2 _ _ hq;have nc:=hm.same s2;rcases k with⟨ka,hD,k⟩|⟨L,txt,hK,hL,k⟩
 . -- a deed
   obtain⟨f,fd,ps,hvd,hva,R_,F,hk,hbd,KP⟩:∃(f:Addr) (fd:FuncData) (ps:List Str),b7 (Pk t) (Sum.inr kd:Key)=some (V.ref f)/\b7 (Ny t) (Sum.inr kd:Key)=none/\¬kd="keep"/\FO P w K mg base 123 f fd ps (y7 t (sU kd))/\W.keepIn K (.ref f)=true/\Binds K fd ps []/\True:=by
    rcases hD with⟨rfl,_⟩|⟨rfl,_⟩|⟨rfl,_⟩
    ·refine⟨t.Q2,t.Yu,_,kr,kr,dk,(Fi T).imp (fun vs H Q E h=>?_),T.q76.k,T.q76.b,trivial⟩
     obtain⟨g,bl,mv,bv,xs,ms,a,np,r,l,rs,ka,ns,g_,us,ts,e1,e2,e3,e4,e5,e6,e7,e8,e9,FI,FH,FG,FF⟩:=h;refine⟨g,bl,mv,bv,xs,ms,a,np,r,l,rs,ka,ns,g_,us,ts,e1,e2,e3,e4,e5,e6,e7,e8,e9,FI,FH,?_,FF⟩;rcases FG with⟨_,h⟩|⟨z,_⟩|⟨z,_⟩
     ·exact h
     ·exact absurd z dk
     exact absurd z dk
    ·refine⟨t.Q1,t.Yt,_,kr,kr,dk,(Fj T).imp (fun vs H Q E h=>?_),T.q77.k,T.q77.b,trivial⟩
     obtain⟨g,bl,mv,bv,xs,ms,a,np,r,l,rs,ka,ns,g_,us,ts,e1,e2,e3,e4,e5,e6,e7,e8,e9,FI,FH,FG,FF⟩:=h;refine⟨g,bl,mv,bv,xs,ms,a,np,r,l,rs,ka,ns,g_,us,ts,e1,e2,e3,e4,e5,e6,e7,e8,e9,FI,FH,?_,FF⟩;rcases FG with⟨z,_⟩|⟨_,h⟩|⟨z,_⟩
     ·exact absurd z dk
     ·exact h
     exact absurd z dk
    refine⟨t.Q0,t.Ys,_,kr,kr,dk,(Fl T).imp (fun vs H Q E h=>?_),T.q78.k,T.q78.b,trivial⟩;obtain⟨g,bl,mv,bv,xs,ms,a,np,r,l,rs,ka,ns,g_,us,ts,e1,e2,e3,e4,e5,e6,e7,e8,e9,FI,FH,FG,FF⟩:=h;refine⟨g,bl,mv,bv,xs,ms,a,np,r,l,rs,ka,ns,g_,us,ts,e1,e2,e3,e4,e5,e6,e7,e8,e9,FI,FH,?_,FF⟩;rcases FG with⟨z,_⟩|⟨z,_⟩|⟨_,h⟩
    ·exact absurd z dk
    ·exact absurd z dk
    exact h
   refine⟨_,Z,Z,_,Z,aQ (fun z=>absurd (V.str.inj (en z)) R_) (fun _=>?_)⟩;refine⟨_,Z,.inr kd,Z,Z,_,Z,?_⟩;rw[show b7 _ (Sum.inr kd:Key)=none from hva];refine bu ?_;refine⟨_,Z,.inr kd,V.ref f,Z,Z,hvd,f,CX1 P w,123,fd,ps,y7 t (sU kd),_,Z,F,hr,hk,hbd,aM,_,Z,_,Z,q,_,1,g_,Z,Z,SqT.of hq2,Z,_,Z,?_⟩;refine⟨g,bl,mv,bv,xs,ms,a,np,r,tl,rs,ka,ns,g_,ys,ts,Z,U2,nk,nc,hM,s2 _ _ kG,h8,ic,pk,SJ,hok,hD,fun b q' hX H3 kp U3 rq=>?_⟩;refine⟨_,Z,g.c,t.zb,g.cx,_,_,Z,U3.co,T.zk,T.zO,JH _ _ _ _,.inl ⟨Z,_,SqL.of U3.mb⟩,?_⟩;refine⟨_,Z,g.c,t.zb,g.cx,_,_,Z,U3.co,T.zk,T.zz,sS _ _ _ _,g.p,g.dx,_,Z,U3.lg.ob,iU _ _ dk dk,g.p,g.dx,g.sl,hX,mv++[.ref a],[],.ref b,Z,U3.lg,g.ml,_,_,Z,Z,U3.mb,dR oo,?_⟩;exact k b q' hX _ (gz.ahead s2 (kp.trans (Ab U3 (.ref b)).2)) (Ab U3 (.ref b)).1 (rq.mh U3.mb (fun _ z=>by cases z))
 . -- an answer
   obtain⟨R_,_,_,f,fd,hv,F,hk,hbd⟩:=hA kd L hK;refine⟨_,Z,Z,_,Z,aQ (fun z=>absurd (V.str.inj (en z)) R_) (fun _=>?_)⟩;refine⟨_,Z,.inr kd,Z,Z,_,Z,?_⟩;rw[show b7 _ (Sum.inr kd:Key)=some (V.ref f)from hv];refine bQ ?_;refine⟨_,Z,g.c,t.zb,g.cx,_,_,Z,U2.co,T.zk,T.zN,JG _ _ _ _,.inl ⟨Z,_,SqL.of U2.an⟩,?_⟩;refine⟨_,Z,.inr kd,V.ref f,Z,Z,hv,f,CX1 P w,123,fd,_,y_ L,_,Z,F,hr,hk,hbd,aM,?_⟩;refine⟨_,Z,g.c,t.zb,g.cx,_,_,Z,U2.co,T.zk,T.zz,sS _ _ _ _,g.p,g.dx,_,Z,U2.lg.ob,iU _ _ dk dk,g.p,g.dx,g.sl,bl,mv,bv,.ref a,Z,U2.lg,_,Z,?_⟩;refine⟨a,np,r,tl,rs,ys,ns,ts,txt,Z,nc,hM,s2 _ _ kG,h8,ic,pk,SJ,hok,hL,fun H3 s3=>?_⟩;have U3:=U2.mono s3;refine⟨g.al,_,_,Z,Z,U3.an,dR (by rw[dS];exact oo),?_⟩;exact k _ (gz.ahead (s2.trans s3) (Fo U3 txt).2) (Fo U3 txt).1 ((nc.same s3).mh U3.an (fun _ z=>by cases z))
inductive C1(t:ku)(vs:List V)(H:Hp)(Q:VK)(E:XK):Prop
 |mk(c q l:Addr)(kd:Str)(g_:V)(_:vs=[.ref c,.ref q])(_:H q=some (.tup [.str kd,g_,.ref l]))(_:¬kd="pour")(_:Q (.bl false) H)
theorem Ir(T:Txt P w K mg t):FM P w base T.q87 1 (C1 t):=by
 refine T.q87.F.eK (N:=["course","form"]) eo ?_;rintro nd _ _ _ _ _ _ _ _ hr ⟨c,q,l,kd,g_,rfl,hq,hn,k⟩;refine⟨_,(aq (aA (oh (b8 aU (cy aJ (af 1) ak) az (aH _)) (lZ GZ)))),?_⟩;refine⟨_,Z,q,_,0,_,Z,Z,SqT.of hq,Z,Z,?_⟩;have e:decide (V.str kd=V.str ("pour":Str))=false:=gp fun z=>hn (V.str.inj z)
 try dsimp -proj -iota only
 rw[e];exact⟨false,Z,k⟩
theorem K5:b_ ["course","form"] ["course","form"] (aV Ub):=eo
theorem Iu(T:Txt P w K mg t){AK:Str->gR->Prop}(hA:vO P w K mg base t AK):FO P w K mg base 125 t.YE t.Yn ["course","form"] (EW t AK):=by
 refine T.q88.F.eK (k:=124) K5 ?_;rintro nd _ _ _ _ H vs Q E hr ⟨g,bl,mv,bv,xs,ms,a,np,r,q,rs,ns,kd,g_,ts,rfl,U,nk,Vf,AL,hm,hM,kG,h8,ic,hF,hok,k⟩;obtain⟨l,ss,hq,_⟩:=hF.ex
 have xI:¬kd="names"/\¬kd="pour":=by
  rcases k with⟨ka,hD,_⟩|⟨L,txt,hK,_⟩
  ·rcases hD with⟨e,_⟩|⟨e,_⟩|⟨e,_⟩ <;> (rw[e];exact⟨dk,dk⟩)
  exact⟨(hA kd L hK).2.1,(hA kd L hK).2.2.1⟩
 refine⟨_,(ao (aR (PW.pt (eX (aF gU (af 1) bK (aH _)) (gk (aF aU (cy aJ (af 1) ak) az (aH _)))))
    (aq (aA az))
    aO)
   (ao (aR (ig (dn T.q87 (Ir T) hr aM (aa (af 0) (aa (af 1) aj))) (fun _=>rfl))
    (aq (aA az))
    aO)
   (ao (yR (wH (GF (Nh T.q86 (Ip T hA) hr (aa (af 0) (aa (af 1) aj)))))
    (.cons T.zu T.Z3 kr kr (fun e=>(aq (aA az))) (.cons T.zW T.Z2 kr kr (fun e=>(aq (aA az))) (.cons T.zV T.Z4 kr kr (fun e=>(aq (aA az))) (.cons T.zJ T.zS kr kr (fun e=>(aq (aA az))) (.cons T.zL T.zT kr kr (fun e=>(aq (aA az))) (.cons T._m T.Z5 kr kr (fun e=>(aq (aA az))) (.cons T._n T.Z6 kr kr (fun e=>(aq (aA az))) .nil))))))))
   (aq (aA bK))))),?_⟩
 refine⟨_,rfl,rfl,_,rfl,aQ (fun z=>absurd (en z) (by intro z;cases z)) (fun _=>?_)⟩;refine⟨_,Z,q,_,0,_,Z,Z,SqT.of hq,Z,Z,_,Z,aQ (fun z=>absurd (V.str.inj (en z)) xI.1) (fun _=>?_)⟩;refine⟨_,Z,_,Z,g.c,q,l,kd,g_,Z,hq,xI.2,?_⟩;refine⟨_,Z,?_⟩;refine⟨_,Z,_,Z,g,bl,mv,bv,xs,ms,a,np,r,q,rs,ns,kd,g_,ts,Z,U,nk,Vf,AL,hm,hM,kG,h8,ic,hF,hok,?_⟩;exact k
inductive Runs(AK:Str->gR->Prop)(ns:List Str):List (Str×V×List Tr)->List Int->List (List Int)->List Str->Prop
 |nil (rs:List Int):Runs AK ns [] rs [] []
 |deed {kd:Str} {g_:V} {ts:List Tr} {rs ka:List Int} {rws:List (Str×V×List Tr)} {AA:List (List Int)} {xs:List Str}:(∀ u∈ts,EG u/\∀ x∈u.names,x∈ns)->sU kd ns rs g_ ts ka->eC ns ka->Runs AK ns rws ka AA xs->Runs AK ns ((kd,g_,ts):: rws) rs (ka::AA) xs
 |OZ {kd:Str} {g_:V} {ts:List Tr} {rs:List Int} {L:gR} {txt:Str} {rws:List (Str×V×List Tr)} {AA:List (List Int)} {xs:List Str}:(∀ u∈ts,EG u/\∀ x∈u.names,x∈ns)->AK kd L->L ns rs ts txt->Runs AK ns rws rs AA xs->Runs AK ns ((kd,g_,ts):: rws) rs AA (txt::xs)
def Ca(r:Nat×Str)(x:Str×V×List Tr):Prop:=r.2.length<=gj/\cG r.2=x.1/\∃(O:Str->Option (V×List Str))(ss:List Str),iW x.1=some O/\O (bJ r.2)=some (x.2.1,ss)/\Paired JY ss x.2.2/\ss.length<=10
def qd(H:Hp)(np:Addr)(v:V)(rs:List Int):Prop:=∃ a r,v=.ref a/\cb H a np r rs
inductive LU(t:ku)(AK:Str->gR->Prop)(vs:List V)(H:Hp)(Q:VK)(E:XK):Prop
 |mk(x:Str)(i0:Nat)(r0:Str)(rest:List (Nat×Str))(rws:List (Str×V×List Tr))(ns:List Str)(AA:List (List Int))(xs:List Str)(_:vs=[.str x])(_:x.length<=gj)(_:qb x=(i0,r0):: rest)(_:r0.length<=gj)(_:cG r0="names")(_:fO (dw (bJ r0))=true)(_:dw (bJ r0)=ns)(_:1<=ns.length)(_:ns.length<=8)(_:ns.Nodup)(_:rest.length<=300)(_:Paired Ca rest rws)(_:Runs AK ns rws (cD ns) AA xs)(_:∀(q al ml np:Addr) (ms:List V) (H':Hp),aT H H'->H' q=some (.tup [.ref al,.ref ml])->H' al=some (.lst (xs.map V.str))->H' ml=some (.lst ms)->H' np=some (.tup (ns.map V.str))->Paired (qd H' np) ms AA->Q (.ref q) H')
theorem sV{g:CA}{xs:List Str}(U:ke t H g bl mv bv xs ms)(k:gz g H H'){us:List V}(h:H b=some (.tup us)):H' b=some (.tup us):=
 k _ _ h (bF h U.lg.ob) (bF h U.lg.st) (bF h U.an) (bF h U.mb)
theorem sW{g:CA}{xs:List Str}(U:ke t H g bl mv bv xs ms)(k:gz g H H')(h:qd H np v rs):qd H' np v rs:=by
 obtain⟨a,r,e,h⟩:=h;exact⟨a,r,e,sV U k h.1,sV U k h.2.1,h.2.2⟩
theorem pL(ns:List Str):eC ns (cD ns):=⟨d_,fun z hz=>by rw[(fk.mp hz).2];exact Int.le_refl 0,fk.mpr ⟨by have:=ip (n:=ns.length);exact oo,rfl⟩⟩
theorem Fp(v:V)(us:List V):ir (v::us) (some 1) none=us:=by
 unfold ir;simp[HT.fb]
theorem Pn:b_ ["text","rows","course","place","row","word"] ["text"] (aV T_):=eo
theorem Nz(T:Txt P w K mg t){AK:Str->gR->Prop}(hA:vO P w K mg base t AK):FO P w K mg base 126 t.YD t.Ym ["text"] (LU t AK):=by
 refine T.q90.F.eK (k:=125) Pn ?_;rintro nd _ _ _ _ H _ _ _ hr ⟨x,i0,r0,rest,rws,ns,AA,xs,rfl,hx,MG,vv,So,hB,nE,h1,h8,ic,SS,hS,hR,k⟩
 refine ⟨_,(ao (eT 1 nd (dn T.q57 (Fg T) hr aM (aa (af 0) aj)))
   (ao (eT 2 nd (Jt T._i (Ij T) (hr.mo) T.ZW T.q75.b aM (aa (dn T.q89 (xG T) hr aM (aa (af 1) aj)) aj)))
   (ao (dX i7 rfl (cJ (ik tH (af 1) (iG ak) jV)) (mj (n:=2) rfl (bG (g6 3 nd) (bG (g6 4 nd) eO)))
    (ao (eT 5 nd (dn T.q88 (Iu T hA) hr aM (aa (af 2) (aa (dn T.q74 (Fe T) hr aM (aa (af 4) aj)) aj))))
    (aq (aR (aF JW (af 5) bK (aH _))
     (aq qF)
     aO))))
   (aq (aA (bj (aa (bM (af 2) rfl) (aa (bM (af 2) rfl) aj)))))))),?_⟩
 refine⟨_,Z,x,Z,hx,fun rl us H1 s1 KO hPr=>?_⟩;rw[MG]at hPr
 obtain⟨v0,us',rfl,hv0,NN⟩:∃ v0 us',us=v0::us'/\mw H1 v0 (i0,r0)/\Paired (mw H1) us' rest:=by
  cases hPr with
  |cons a b=>exact⟨_,_,Z,a,b⟩
 have E6:us'.length=rest.length:=bg NN;refine⟨_,Z,rl,v0,us',i0,r0,Z,KO,by rw[E6];exact fA SS odz,hv0,vv,So,hB,fun np H2 s2 kG=>?_⟩;rw[nE]at kG;have RW:=s2 _ _ KO;have SM:Paired (mw H2) us' rest:=Paired.gV NN fun _ _ z=>z.mono s2
 have PR:aT H H2:=fun b o e=>s2 _ _ (s1 _ _ e)
 intro c cx hc VH hccx;have R8:np≠c:=aK kG hc;have R7:np≠cx:=aK kG VH;refine⟨c,cx,np,ns,Z,au,by rw[aG R8,aG R7];exact kG,h1,h8,fun p dx sl kp al ml bl m r H3 U hm hp hsl oS qk keep=>⟨Z,?_⟩⟩;have DI:aT H2 H3:=fun b o e=>keep b o (by rw[aG (aK e hc),aG (aK e VH)];exact e) (aK e hc)
 have fr:∀ b,(upd (upd H2 cx (.own c)) c (.ins t.zb cx [])) b=none->H2 b=none:=fun b e=>by
  by_cases e1:b=c
  ·rw[e1]at e;rw[au]at e;cases e
  rw[aG e1]at e
  by_cases e2:b=cx
  ·rw[e2]at e;rw[au]at e;cases e
  rw[aG e2]at e;exact e
 have KS:=fr _ hp;have AG:=fr _ hsl;have SG:=fr _ oS;have Sd:=fr _ qk;have RV:=DI _ _ RW;have lift:∀{Ha Hb:Hp},aT H2 Ha->gz ⟨c,cx,p,dx,sl,kp,al,ml⟩ Ha Hb->aT H2 Hb:=fun sa kc b o e=>kc b o (sa _ _ e) (aK e KS) (aK e AG) (aK e SG) (aK e Sd)
 refine⟨_,Z,_,Z,rl,_,Z,SqL.of RV,fun BE rj=>?_⟩;have ec:ir (v0::us') (some 1) none=us':=Fp v0 us';rw[ec];have rd:=aB (o:=.lst us') rj;have IB:(upd H3 BE (.lst us')) BE=some (.lst us'):=au;have n1:BE≠p:=ba (aK U.lg.ob rj);have n2:BE≠sl:=ba (aK U.lg.st rj);have n3:BE≠al:=ba (aK U.an rj);have n4:BE≠ml:=ba (aK U.mb rj);have U4:=U.mono rd;have AL:=hm.same rd;have DH:=DI.trans rd;generalize upd H3 BE (.lst us')=H4 at IB U4 AL DH ⊢;have IL:rest.length=rws.length:=bg hS
 refine⟨BE,rfl,⟨_,SqL.of IB⟩,fW (K:=K) (a:=BE) (xs:=us')
  (fun i σ H'=>∃(o3 o4 o5:Option V)(bl:Addr)(mv bv:List V)(a r:Addr)(rs:List Int)(x1 x2:List Str)(ms:List V)(m1 m2:List (List Int)),σ=[some (.str x),some (.ref rl),some (.ref c),o3,o4,o5]/\aT H2 H'/\H' BE=some (.lst us')/\ke t H' ⟨c,cx,p,dx,sl,kp,al,ml⟩ bl (mv++[.ref a]) bv x1 ms/\mv.length<=i/\cb H' a np r rs/\eC ns rs/\Paired (qd H' np) ms m1/\Runs AK ns (rws.drop i) rs m2 x2/\AA=m1++m2/\xs=x1++x2/\x1.length<=i/\m1.length<=i)
  ⟨none,none,none,bl,[],[],m,r,cD ns,[],xs,[],[],AA,rfl,DH,IB,U4,qnr _,AL,pL ns,.nil,hR,rfl,rfl,qnr _,qnr _⟩ (fun i σ H' _ ⟨_,_,_,_,_,_,_,_,_,_,_,_,_,_,_,_,h,_⟩=>SqL.of h) ?_ ?_⟩
 ·rintro i y σ H5 hi ⟨o3,o4,o5,bl,mv,bv,a,r,rs,x1,x2,ms,m1,m2,rfl,L1,IA,U5,Vv,AJ,hM,IY,hRu,hmss,hxs,BN,hm1⟩
  have QE:i<us'.length:=(List.getElem?_eq_some_iff.mp hi).1;obtain⟨⟨j,yt⟩,hj,q,rfl,hq⟩:=bN SM i y hi;obtain⟨⟨kd,g_,ts⟩,hrw,Mo,QF,O,ss,hO,SN,SK,VU⟩:=bN hS i (j,yt) hj;have Mo:yt.length<=gj:=Mo;have QF:cG yt=kd:=QF;have hO:iW kd=some O:=hO;have SN:O (bJ yt)=some (g_,ss):=SN;have SK:Paired JY ss ts:=SK
  have Ti:rws.drop i=(kd,g_,ts):: rws.drop (i+1):=by
   obtain⟨fE,e⟩:=List.getElem?_eq_some_iff.mp hrw;rw[gT fE,e]
  have qk:ms.length=m1.length:=bg IY;refine⟨q,_,Z,SqT.of (L1 _ _ hq),Z,_,_,Z,_,_,Z,Z,?_⟩;refine⟨_,Z,_,Z,yt,O,Z,Mo,by rw[QF];exact hO,fun v H6 s6 VO=>?_⟩;rw[SN,QF]at VO;obtain⟨q6,l6,rfl,P9,K2⟩:=VO;have s6:aT H5 H6:=s6;have U6:=U5.mono s6;have hm6:=AJ.same s6;have Rm:=L1.trans s6;have NO:Paired (qd H6 np) ms m1:=Paired.gV IY fun _ _ ⟨a',r',e,h⟩=>⟨a',r',e,h.same s6⟩
  rw[Ti]at hRu;refine⟨⟨c,cx,p,dx,sl,kp,al,ml⟩,bl,mv,bv,x1,ms,a,np,r,q6,rs,ns,kd,g_,ts,Z,U6,oo,oo,oo,hm6,hM,Rm _ _ kG,h8,ic,⟨l6,ss,P9,K2,SK,VU⟩,?_,?_⟩
  ·cases hRu with
   |deed h _ _ _=>exact h
   |OZ h _ _ _=>exact h
  cases hRu with
  | deed hok hD hM' hrest =>
   rename_i ka _Y
   refine .inl ⟨ka,hD,fun b q' hX H7 kc U7 Qy=>?_⟩;refine⟨_,Z,Z,_,Z,aQ (fun z=>absurd z (by rw[cS rfl];decide)) (fun _=>?_)⟩;refine⟨_,_,_,hX,mv++[.ref a],[],b,q',ka,x1,x2,ms++[.ref b],m1++[ka],_Y,Z,lift Rm kc,kc _ _ (s6 _ _ IA) n1 n2 n3 n4,U7,by rw[aS];exact xo Vv,Qy,hM',dg (Paired.gV NO fun _ _ z=>sW U6 kc z) (.cons ⟨b,q',Z,Qy⟩ .nil),hrest,by rw[hmss,c_];rfl,hxs,oo,by rw[aS];exact xo hm1⟩
  | OZ hok hK hL hrest =>
   rename_i L txt _p
   refine .inr ⟨L,txt,hK,hL,fun H7 kc U7 Qy=>?_⟩;refine⟨_,Z,Z,_,Z,aQ (fun z=>absurd z (by rw[cS rfl];decide)) (fun _=>?_)⟩;refine⟨_,_,_,bl,mv,bv,a,r,rs,x1++[txt],_p,ms,m1,m2,Z,lift Rm kc,kc _ _ (s6 _ _ IA) n1 n2 n3 n4,U7,oo,Qy,hM,Paired.gV NO fun _ _ z=>sW U6 kc z,hrest,hmss,by rw[hxs,c_];rfl,by rw[aS];exact xo BN,oo⟩
 rintro σ H5 ⟨o3,o4,o5,bl,mv,bv,a,r,rs,x1,x2,ms,m1,m2,rfl,L1,IA,U5,Vv,AJ,hM,IY,hRu,hmss,hxs,BN,hm1⟩;have ed:rws.drop us'.length=[]:=List.drop_eq_nil_of_le oo;rw[ed]at hRu;cases hRu;rw[bX]at hmss hxs;subst hmss hxs;refine⟨_,Z,c,t.zb,cx,_,_,Z,U5.co,T.zk,T.zN,JG _ _ _ _,_,Z,c,t.zb,cx,_,_,Z,U5.co,T.zk,T.zO,JH _ _ _ _,lk obz,fun e he=>?_⟩;have s7:=aB (o:=.tup [.ref al,.ref ml]) he;exact k e al ml np ms _ ((PR.trans L1).trans s7) au (s7 _ _ U5.an) (s7 _ _ U5.mb) (s7 _ _ (L1 _ _ kG)) (Paired.gV IY fun _ _ ⟨a',r',e,h⟩=>⟨a',r',e,h.same s7⟩)
theorem lq{c:Nat}:∀{u:List Nat},c∉u->∀ v,cH c (u++c::v)=u/\cj c (u++c::v)=v
 |[],_,v=>⟨b6 rfl,b6 rfl⟩
 | d::u,h,v=>by
  have hd:¬d=c:=fun e=>h (by rw[e];exact qms)
  obtain⟨h1,h2⟩:=lq (u:=u) (fun z=>h (k8 _ z)) v;refine⟨?_,?_⟩
  ·show(if d=c then []else d::cH c (u++c::v))=_
   rw[bq hd,h1]
  show(if d=c then _ else cj c (u++c::v))=_;rw[bq hd,h2]
theorem qZ{c:Nat}:∀{u:List Nat},c∉u->cH c u=u/\cj c u=[]
 |[],_=>⟨rfl,rfl⟩
 | d::u,h=>by
  have hd:¬d=c:=fun e=>h (by rw[e];exact qms)
  obtain⟨h1,h2⟩:=qZ (u:=u) (fun z=>h (k8 _ z));refine⟨?_,?_⟩
  ·show(if d=c then []else d::cH c u)=_
   rw[bq hd,h1]
  show(if d=c then _ else cj c u)=_;rw[bq hd,h2]
theorem nH{l:List Nat}(h:¬l.head?=some 32):l.dropWhile (· == 32)=l:=by
 cases l with
 |nil=>rfl
 | cons c l =>
  rw[p_,bq];intro e;exact h (by rw[List.head?_cons,eq_of_beq e])
theorem pM{l:List Nat}(h:x.cps.toList=l):jo l=x:=jH (by rw[sy,h])
theorem t7:(" ":Str).cps.toList=[32]:=by rw[nA]
theorem iZ{u v:Str}(h:32∉u.cps.toList)(hv:¬v.cps.toList.head?=some 32):cG (u++" "++v)=u/\bJ (u++" "++v)=v:=by
 have e:(u++" "++v:Str).cps.toList=u.cps.toList++32::v.cps.toList:=by
  rw[bT,bT,t7];simp
 unfold cG bJ;rw[e,(lq h _).1,(lq h _).2,nH hv];exact⟨pM rfl,pM rfl⟩
theorem Fq{u:Str}(h:32∉u.cps.toList):cG u=u/\bJ u="":=by
 unfold cG bJ;rw[(qZ h).1,(qZ h).2];exact⟨pM rfl,Z⟩
structure Clean(p:Str):Prop where
 nl:10∉p.cps.toList
 hd:∃ c,p.cps.toList.head?=some c/\¬c=32
 la:∃ c,p.cps.toList.getLast?=some c/\¬c=32
theorem Clean.rV{p:Str}(h:Clean p):¬p.cps.toList.head?=some 32:=by
 obtain⟨c,e,hc⟩:=h.hd;rw[e];exact fun z=>hc (iE z)
theorem lX{p:Str}(h:Clean p):gJ p=p:=by
 refine jH ?_;unfold gJ;rw[nA,tU,nH h.rV]
 have:¬p.cps.toList.reverse.head?=some 32:=by
  obtain⟨c,e,hc⟩:=h.la;rw[List.head?_reverse,e];exact fun z=>hc (iE z)
 rw[nH this,dr]
theorem Iv{p:Str}(h:Clean p):¬p="":=fun e=>by
 obtain⟨c,e',_⟩:=h.hd;rw[e]at e';have:("":Str).cps.toList=[]:=by decide +kernel
 rw[this]at e';cases e'
theorem K6{xs:List Str}(h:xs.map (·.cps.toList)=ys.map (·.cps.toList)):xs=ys:=by
 induction xs generalizing ys with
 | nil=>cases ys with
  |nil=>rfl
  |cons y ys=>cases h
 | cons x xs ih=>cases ys with
  |nil=>cases h
  | cons y ys =>
   rw[b3,b3,List.cons.injEq]at h;rw[jH h.1,ih h.2]
theorem sX(c:Nat)(g7:ps≠[])(h:∀ p∈ps,c∉p.cps.toList):Txt.split (Txt.join ⟨#[c]⟩ ps) ⟨#[c]⟩=ps:=by
 have e:Txt.join ⟨#[c]⟩ ps=Str.join ⟨#[c]⟩ ps:=gL _ _;refine K6 ?_;rw[Km,e,lV c ps g7 h]
theorem K7(g7:ps≠[])(h:∀ p∈ps,Clean p):qb (Txt.join "\n" ps)=ps.zipIdx.map fun(x:Str×Nat)=>(x.2,x.1):=by
 have e:Txt.split (Txt.join "\n" ps) "\n"=ps:=by
  rw[Nv];exact sX 10 g7 fun p hp=>(h p hp).nl
 unfold qb ie;rw[e]
 have e2:(ps.zipIdx.map fun p=>(p.2,gJ p.1))=ps.zipIdx.map fun(x:Str×Nat)=>(x.2,x.1):=pV fun x hx=>by
  have hm:x.1∈ps:=by
   have:=List.mem_zipIdx hx;rw[this.2.2];exact gN _
  rw[lX (h _ hm)]
 rw[e2,List.filter_eq_self];intro r hr;obtain⟨x,hx,rfl⟩:=ck.mp hr
 have hm:x.1∈ps:=by
  have:=List.mem_zipIdx hx;rw[this.2.2];exact gN _
 show(!decide (x.1=""))=true;rw[gp (Iv (h _ hm))]
 rfl
theorem iJ{u v:Str}(h1:10∉u.cps.toList)(h2:∃ c,u.cps.toList.head?=some c/\¬c=32)(hv:Clean v):Clean (u++" "++v):=by
 have e:(u++" "++v:Str).cps.toList=u.cps.toList++32::v.cps.toList:=by
  rw[bT,bT,t7];simp
 refine⟨?_,?_,?_⟩
 ·rw[e]
  intro z;rcases aw.mp z with z|z
  ·exact h1 z
  rcases av.mp z with z|z
  ·exact absurd z odz
  exact hv.nl z
 ·obtain⟨c,h,hc⟩:=h2
  refine⟨c,?_,hc⟩;rw[e];cases hu:u.cps.toList with
  |nil=>rw[hu]at h;cases h
  |cons d r=>rw[hu]at h;exact h
 obtain⟨c,h,hc⟩:=hv.la;refine⟨c,?_,hc⟩;rw[e,List.getLast?_append,List.getLast?_cons];rw[h]
 rfl
theorem Ft(h:isName x=true)(hc:cV c=false):c∉x.cps.toList:=fun z=>by
 unfold isName at h;have:cV c=true:=cm.mp (aE.mp h).2 c z;rw[hc]at this;cases this
theorem words_of(g7:ns≠[])(h:∀ n∈ns,isName n=true):dw (Txt.join " " ns)=ns:=by
 have hb:∀ n∈ns,32∉n.cps.toList/\¬n="":=fun n hn=>by
  have:=h n hn;refine⟨fun z=>?_,fun z=>?_⟩
  ·exact Ft this (c:=32) odz z
  rw[z]at this;exact absurd this dk
 unfold dw
 have e:Txt.split (Txt.join " " ns) " "=ns:=by
  rw[nA];exact sX 32 g7 fun p hp=>(hb p hp).1
 rw[e,List.filter_eq_self];intro n hn;rw[gp (hb n hn).2]
 rfl
def cI:Nat->Nat->List Nat
 | 0,n=>[48+n%10]
 |k+1,n=>if n<10 then [48+n]else cI k (n/10)++[48+n%10]
theorem uc:∀ d:Nat,d<10->(Nat.digitChar d).toNat=48+d:=by decide
theorem rm:∀(k n:Nat),n<10^(k+1)->(Nat.toDigits 10 n).map Char.toNat=cI k n
 | 0,n,h=>by
  have h:n<10:=h;rw[mS h];show [(Nat.digitChar n).toNat]=[48+n%10]
  rw[uc n h,xp h]
 | k + 1,n,h=>by
  show _=if n<10 then [48+n]else cI k (n/10)++[48+n%10]
  by_cases hn:n<10
  ·rw[b6 hn,mS hn]
   show [(Nat.digitChar n).toNat]=_;rw[uc n hn]
  rw[bq hn]
  have h1:n/10<10^(k+1):=by
   rw[om odz,<- fS];exact h
  have h2:n%10<10:=Nat.mod_lt _ odz;have h3:0<n/10:=oo
  have e:10*(n/10)+n%10=n:=nL n 10;have:=Nat.toDigits_append_toDigits (b:=10) (n:=n/10) (d:=n%10) odz h3 h2;rw[e]at this;rw[<- this,ax,rm k _ h1,mS h2];show _++[(Nat.digitChar (n%10)).toNat]=_;rw[uc _ h2]
theorem xJ:∀(k n:Nat),n<10^(k+1)->gb (cI k n)=n
 | 0,n,h=>by
  have h:n<10:=h;show 0*10+(48+n%10-48)=n;rw[xp h];exact oo
 | k + 1,n,h=>by
  show gb (if n<10 then [48+n]else cI k (n/10)++[48+n%10])=n
  by_cases hn:n<10
  ·rw[b6 hn]
   show 0*10+(48+n-48)=n;exact oo
  rw[bq hn]
  have h1:n/10<10^(k+1):=by
   rw[om odz,<- fS];exact h
  unfold gb;rw[lI];show gb (cI k (n/10))*10+(48+n%10-48)=n;rw[xJ k _ h1];exact oo
theorem iy:∀(k n:Nat),1<=(cI k n).length /\ (cI k n).length <= k+1
 | 0,n=>⟨qnr _,qnr _⟩
 | k+1,n=>by
  have:=iy k (n/10);show 1<=(if n<10 then [48+n]else cI k (n/10)++[48+n%10]).length /\ (if n<10 then [48+n]else cI k (n/10)++[48+n%10]).length <= k+1+1
  split
  ·exact⟨qnr _,oz⟩
  rw[aS];show 1<=_+1/\_+1<=_;exact oo
theorem nJ:∀(k n:Nat),∀ c∈cI k n,48<=c/\c<=57
 | 0,n=>fun c hc=>by
  have hc:c=48+n%10:=ar.mp hc;exact oo
 | k + 1,n=>fun c hc=>by
  have hc:c∈(if n<10 then [48+n]else cI k (n/10)++[48+n%10]):=hc
  split at hc
  ·have:=ar.mp hc
   exact oo
  rcases aw.mp hc with hc|hc
  ·exact nJ k _ c hc
  have:=ar.mp hc;exact oo
theorem uY:∀(k n:Nat),0<n->n<10^(k+1)->∃ c r,cI k n=c::r/\¬c=48
 | 0,n,h0,h=>⟨48+n%10,[],rfl,by have h:n<10:=h;rw[xp h];exact oo⟩
 | k + 1,n,h0,h=>by
  show ∃ c r,(if n<10 then [48+n]else cI k (n/10)++[48+n%10])=c::r/\¬c=48
  split
  ·exact⟨48+n,[],Z,oo⟩
  have h1:n/10<10^(k+1):=by
   rw[om odz,<- fS];exact h
  obtain⟨c,r,e,hc⟩:=uY k (n/10) oo h1;exact⟨c,r++[48+n%10],by rw[e];rfl,hc⟩
def Cd(n:Nat):List Nat:=cI 29 n
def eN(i:Int):Str:=((toString i:String):Str)
theorem iz(h:n<10^30):(eN (n:Int)).cps.toList=Cd n:=by
 show(Str.ofString (toString (n:Int))).cps.toList=_;rw[Str.ofString_eq_toList];show((toString (n:Int)).toList.map Char.toNat)=_;have e:toString (n:Int)=String.ofList (Nat.toDigits 10 n):=rfl;rw[e,String.toList_ofList];exact rm 29 n h
theorem lu(h:n+1<10^30):(eN (-((n+1:Nat):Int))).cps.toList=45::Cd (n+1):=by
 show(Str.ofString (toString (-((n+1:Nat):Int)))).cps.toList=_;rw[Str.ofString_eq_toList];show((toString (-((n+1:Nat):Int))).toList.map Char.toNat)=_;have e:toString (-((n+1:Nat):Int))="-"++String.ofList (Nat.toDigits 10 (n+1)):=rfl;rw[e,String.toList_append,ax,String.toList_ofList (l:=Nat.toDigits 10 (n+1)),rm 29 (n+1) h]
 rfl
theorem nM(hx:x.cps.toList=Cd n)(h:n<10^30):gC x=true/\gb x.cps.toList=n:=by
 have hl:=iy 29 n;have hf:=nJ 29 n;have el:x.length=x.cps.toList.length:=ag.symm;have xE:x.cps.toList.length=(cI 29 n).length:=by rw[hx];rfl
 refine⟨?_,by rw[hx];exact xJ 29 n h⟩;unfold gC;rw[cS (show(1:Int)<=(x.length:Int)by omega),cS (show(x.length:Int)<=30 by omega)]
 have ha:x.cps.toList.all gQ=true:=by
  rw[cm,hx];intro c hc;have:=hf c hc;unfold gQ;rw[cS this.1,cS this.2]
  rfl
 rw[ha];show(!(decide (x.cps.toList.head?=some 48) && !decide (x="0")))=true
 by_cases h0:n=0
 ·have ex:x="0":=jH (by rw[hx,h0,jG];decide)
  rw[cS ex];simp
 obtain⟨c,r,e,hc⟩:=uY 29 n oo h
 have:¬x.cps.toList.head?=some 48:=by
  rw[hx];show ¬(cI 29 n).head?=some 48;rw[e];exact fun z=>hc (iE z)
 rw[gp this]
 rfl
theorem xK{r:List Nat}(h:x.cps.toList=45::r):Txt.startswith x "-"=true:=by
 have e:("-":Str)=⟨#[45]⟩:=by decide +kernel
 rw[e];obtain⟨h1,h2⟩:=(jS x 45 0).mpr (by rw[h];rfl);exact aE.mpr ⟨cS h1,h2⟩
theorem Fv(h:¬x.cps.toList.head?=some 45):¬Txt.startswith x "-"=true:=by
 have e:("-":Str)=⟨#[45]⟩:=by decide +kernel
 rw[e];intro z;obtain⟨z1,z2⟩:=aE.mp z;have:=(jS x 45 0).mp ⟨en z1,z2⟩;exact h (by rw[List.head?_eq_getElem?];exact this)
theorem K8(x:Str):(dD x (some 1) none).cps.toList=x.cps.toList.drop 1:=by
 rw[fG];have e:x.length=x.cps.toList.length:=ag.symm;rw[e];generalize x.cps.toList=l;cases l with
 |nil=>rfl
 |cons c r=>simp[HT.fb]
theorem Fw(h0:0<n)(h:n<10^30):iV (eN (n:Int))=.int (n:Int):=by
 obtain⟨h1,h2⟩:=nM (iz h) h;unfold iV;rw[b6 h1,h2,bq oo]
theorem Fx{i:Int}(h1 : -(10^30)<i)(h2:i<10^30):lN (eN i)=.int i:=by
 unfold lN;rcases nt i 0 with hi|hi
 ·obtain⟨n,rfl⟩:∃ n:Nat,i = -((n+1:Nat):Int):=⟨(-i).toNat-1,oo⟩
  have hn:n+1<10^30:=oo
  have e:=lu hn;have hs:Txt.startswith (eN (-((n+1:Nat):Int))) "-"=true:=xK e;rw[b6 hs];have ec:(dD (eN (-((n+1:Nat):Int))) (some 1) none).cps.toList=Cd (n+1):=by rw[K8,e];rfl
  obtain⟨q1,q2⟩:=nM ec hn;unfold iV;rw[b6 q1,q2,bq oo]
  rfl
 obtain⟨n,rfl⟩:∃ n:Nat,i=(n:Int):=⟨i.toNat,oo⟩
 have hn:n<10^30:=oo
 obtain⟨q1,q2⟩:=nM (iz hn) hn
 have hs:¬Txt.startswith (eN (n:Int)) "-"=true:=Fv (by
  rw[iz hn];have hf:=nJ 29 n;have hl:=iy 29 n;show ¬(cI 29 n).head?=some 45;cases hq:cI 29 n with
  |nil=>rw[hq]at hl;exact absurd hl.1 odz
  | cons c r =>
   have:=hf c (by rw[hq];exact qms);intro z;have:=iE z
   exact oo)
 rw[bq hs];unfold qX;rw[b6 q1,q2]
def DS:Op->Str
 | .and => "&"
 | .or => "|"
 | .thn => ">"
 | .same => "="
def Kx:Op->Nat
 | .and=>38
 | .or=>124
 | .thn=>62
 | .same=>61
theorem Ce(o:Op):DS o=⟨#[Kx o]⟩:=by cases o<;>decide +kernel
theorem xM(o:Op):cz (DS o):=by
 cases o
 ·exact .inl rfl
 ·exact .inr (.inl rfl)
 ·exact .inr (.inr (.inl rfl))
 exact .inr (.inr (.inr rfl))
theorem NB(o:Op):pG (DS o)=o:=by cases o<;>decide +kernel
def wrT:Tr->Str
 | .nm x=>x
 | .yes => "1"
 | .no => "0"
 | .not a => "~"++wrT a
 | .bin o a b => "("++wrT a++" "++DS o++" "++wrT b++")"
def dJ(t:Tr):Prop:=∀ x∈t.names,isName x=true
theorem mJ(a:Tr):(wrT (.not a)).cps.toList=126::(wrT a).cps.toList:=by
 show("~"++wrT a:Str).cps.toList=_;rw[bT,xr]
 rfl
theorem mK(o:Op)(a b:Tr):(wrT (.bin o a b)).cps.toList=40::(((wrT a).cps.toList++[32])++Kx o::(32::(wrT b).cps.toList))++[41]:=by
 show("("++wrT a++" "++DS o++" "++wrT b++")":Str).cps.toList=_;rw[bT,bT,bT,bT,bT,bT,xq,z9,KZ,Ce];simp
theorem lO:∀{tr:Tr},dJ tr->∃ ws,du (wrT tr).cps.toList ws/\Wr 5 tr ws
 | .nm x,h=>by
  have hx:=h x qms;exact⟨[x],KY hx,.leaf (Ey hx) (by rw[xr];exact p8 hx odz) (by rw[xq];exact p8 hx odz)⟩
 | .yes,_=>⟨[⟨#[49]⟩],by show du ("1":Str).cps.toList _;rw[nq];exact z8 ⟨odz,odz⟩,by rw[<- nq];exact .leaf (by unfold gB;rw[b6 rfl]) dk dk⟩
 | .no,_=>⟨[⟨#[48]⟩],by show du ("0":Str).cps.toList _;rw[jG];exact z8 ⟨odz,odz⟩,by rw[<- jG];exact .leaf (by unfold gB;rw[bq dk,b6 rfl]) dk dk⟩
 | .not a,h=>by
  obtain⟨ws,h1,h2⟩:=lO (tr:=a) h;refine⟨⟨#[126]⟩:: ws,?_,?_⟩
  ·rw[mJ]
   exact Ew ⟨odz,odz⟩ h1
  rw[<- xr];exact .not h2
 | .bin o a b,h=>by
  obtain⟨w1,h1,h2⟩:=lO (tr:=a) fun x hx=>h x (sN _ hx)
  obtain⟨w2,h3,h4⟩:=lO (tr:=b) fun x hx=>h x (m_ _ hx)
  have ho:isSign (Kx o):=by cases o<;>exact⟨odz,odz⟩
  refine⟨⟨#[40]⟩:: ((w1++DS o::w2)++[⟨#[41]⟩]),?_,?_⟩
  ·rw[mK,Ce]
   refine KR (ws:=⟨#[40]⟩:: (w1++⟨#[Kx o]⟩:: w2)) ⟨odz,odz⟩ ?_;exact Ew ⟨odz,odz⟩ (Nt ho (Ex h1) (HY h3))
  rw[<- xq,<- z9];have hb:=xf (xM o);have:=Wr.bin (n:=0) (xM o) (by have:=Nq (xM o);exact oo) ⟨oo,fun _=>oo⟩ ⟨oo,fun _=>oo⟩ h2 h4;rw[NB]at this;exact .Yy this
def DT(c:Nat):Prop:=cV c=true\/c=49\/c=48\/c=126\/c=40\/c=41\/c=32\/c=38\/c=124\/c=62\/c=61
theorem jr:∀{tr:Tr},dJ tr->∀ c∈(wrT tr).cps.toList,DT c
 | .nm x,h,c,hc=>by
  have hx:=h x qms;unfold isName at hx;exact .inl (cm.mp (aE.mp hx).2 c hc)
 | .yes,_,c,hc=>by
  have hc:c∈("1":Str).cps.toList:=hc;rw[nq]at hc;exact .inr (.inl (ar.mp hc))
 | .no,_,c,hc=>by
  have hc:c∈("0":Str).cps.toList:=hc;rw[jG]at hc;exact .inr (.inr (.inl (ar.mp hc)))
 | .not a,h,c,hc=>by
  rw[mJ]at hc;rcases av.mp hc with rfl|hc
  ·simp[DT]
  exact jr (tr:=a) h c hc
 | .bin o a b,h,c,hc=>by
  rw[mK]at hc;have ho:DT (Kx o):=by cases o<;>simp[DT,Kx]
  simp only[aw,av,List.not_mem_nil,or_false,gS]at hc;rcases hc with rfl | ((hc|rfl) | (rfl | (rfl|hc)))|rfl
  ·simp[DT]
  ·exact jr (tr:=a) (fun x hx=>h x (sN _ hx)) c hc
  ·simp[DT]
  ·exact ho
  ·simp[DT]
  ·exact jr (tr:=b) (fun x hx=>h x (m_ _ hx)) c hc
  simp[DT]
theorem rn(h:DT c):¬c=10/\¬c=58/\c<16^8:=by
 have e:16^8=4294967296:=by decide
 rcases h with h|h|h|h|h|h|h|h|h|h|h
 ·unfold cV at h
  obtain⟨h1,h2⟩:=aE.mp h;have h1:=en h1;have h2:=en h2;exact oo
 all_goals omega
def jb:Nat->Nat
 | 0=>0
 | 1=>8
 |d+2=>2*jb (d+1)+5
theorem uZ:∀ d,1<=d->8<=jb d
 | 1,_=>qnr _
 | d+2,_=>by
  have:=uZ (d+1) oo;show 8<=2*jb (d+1)+5;exact oo
theorem jc:∀{d e:Nat},d<=e->jb d<=jb e
 | 0,e,_=>mf _
 | 1,e,h=>uZ e h
 |d+2,0,h=>absurd h oo
 |d+2,1,h=>absurd h oo
 | d+2,e+2,h=>by
  have:=jc (d:=d+1) (e:=e+1) oo;show 2*jb (d+1)+5<=2*jb (e+1)+5;exact oo
theorem pN:∀{tr:Tr},dJ tr->(wrT tr).cps.toList.length<=jb tr.depth
 | .nm x,h=>by
  have hx:=h x qms;unfold isName at hx;have:=en (aE.mp (aE.mp hx).1).2;have e:x.length=x.cps.toList.length:=ag.symm;show x.cps.toList.length<=8;exact oo
 | .yes,_=>by
  show("1":Str).cps.toList.length<=8;rw[nq]
  decide
 | .no,_=>by
  show("0":Str).cps.toList.length<=8;rw[jG]
  decide
 | .not a,h=>by
  have:=pN (tr:=a) h;have hp:=a.i9;obtain⟨d,hd⟩:∃ d,a.depth=d+1:=⟨a.depth-1,oo⟩
  have e:(Tr.not a).depth=d+2:=by show a.depth+1=_;exact oo
  rw[mJ,e];rw[hd]at this;show(wrT a).cps.toList.length+1<=2*jb (d+1)+5;exact oo
 | .bin o a b,h=>by
  have h1:=pN (tr:=a) fun x hx=>h x (sN _ hx)
  have h2:=pN (tr:=b) fun x hx=>h x (m_ _ hx)
  have hp:=a.i9;obtain⟨d,hd⟩:∃ d,max a.depth b.depth=d+1:=⟨max a.depth b.depth-1,oo⟩
  have e:(Tr.bin o a b).depth=d+2:=by show max a.depth b.depth+1=_;exact oo
  rw[mK,e];have m1:=jc (d:=a.depth) (e:=d+1) oo;have m2:=jc (d:=b.depth) (e:=d+1) oo;simp only[aS,bp,nN];show _<=2*jb (d+1)+5;exact oo
theorem Ac(h:dJ tr)(hd:tr.depth<=40)(hl:(wrT tr).cps.toList.length<=200):JY (wrT tr) tr:=by
 have e:(wrT tr).length=(wrT tr).cps.toList.length:=ag.symm;obtain⟨ws,h1,h2⟩:=lO h;refine⟨fA oo (show 200<=sizeLine by decide),fun c hc=>(rn (jr h c hc)).2.2,?_⟩;unfold vM;rw[bq oo,xn h1,KQ h2];show(if 40<tr.depth then Out.deep else Out.tree tr)=_;rw[bq oo]
theorem Iw{l:List Nat}(h1:l≠[])(h2:∀ c∈l,cV c=true):∃ c,l.getLast?=some c/\¬c=32:=by
 refine⟨l.getLast h1,List.getLast?_eq_some_getLast h1,fun z=>?_⟩;have:=h2 _ (List.getLast_mem h1);rw[z]at this;exact absurd this odz
theorem Ad:∀{tr:Tr},dJ tr->∃ c,(wrT tr).cps.toList.getLast?=some c/\¬c=32
 | .nm x,h=>by
  have hx:=h x qms;unfold isName at hx;obtain⟨h1,h2⟩:=aE.mp hx;have h1:=en (aE.mp h1).1;have e:x.length=x.cps.toList.length:=ag.symm;show ∃ c,x.cps.toList.getLast?=some c/\¬c=32;exact Iw (fun z=>by rw[z]at e;rw[e]at h1;exact absurd h1 odz) fun c hc=>cm.mp h2 c hc
 | .yes,_=>⟨49,by show("1":Str).cps.toList.getLast?=_;rw[nq];rfl,odz⟩
 | .no,_=>⟨48,by show("0":Str).cps.toList.getLast?=_;rw[jG];rfl,odz⟩
 | .not a,h=>by
  obtain⟨c,h1,h2⟩:=Ad (tr:=a) h;refine⟨c,?_,h2⟩;rw[mJ,List.getLast?_cons,h1]
  rfl
 | .bin o a b,h=>⟨41,by rw[mK,List.getLast?_append];rfl,odz⟩
theorem lw(h:dJ tr):Clean (wrT tr):=by
 have hs:=jr h;refine⟨fun z=>(rn (hs 10 z)).1 rfl,?_,?_⟩
 ·cases tr with
  | nm x =>
   have hx:=h x qms;show ∃ c,x.cps.toList.head?=some c/\¬c=32;unfold isName at hx;obtain⟨h1,h2⟩:=aE.mp hx;have h1:=en (aE.mp h1).1;have e:x.length=x.cps.toList.length:=ag.symm;cases hq:x.cps.toList with
   |nil=>rw[hq]at e;rw[e]at h1;exact absurd h1 odz
   | cons c r =>
    refine⟨c,Z,fun z=>?_⟩;have:=cm.mp h2 c (by rw[hq];exact qms);rw[z]at this;exact absurd this odz
  |yes=>exact⟨49,by show("1":Str).cps.toList.head?=_;rw[nq];rfl,odz⟩
  |no=>exact⟨48,by show("0":Str).cps.toList.head?=_;rw[jG];rfl,odz⟩
  |not a=>exact⟨126,by rw[mJ];rfl,odz⟩
  |bin o a b=>exact⟨40,by rw[mK];rfl,odz⟩
 exact Ad h
abbrev Iz:List (Key×V):=[(.inr "and",.str "&"),(.inr "or",.str "|"),(.inr "then",.str ">"),(.inr "same",.str "=")]
theorem NK(o:Op):b7 (kj [] Iz) (.inr o.str)=some (.str (DS o)):=by cases o<;>decide +kernel
theorem Fy{p:Addr}(h:H p=none):aT H (upd (upd H p o) p o'):=fun b u e=>by
 rw[aG (aK e h),aG (aK e h)];exact e
inductive F0(d:Nat)(vs:List V)(H:Hp)(Q:VK)(E:XK):Prop
 |mk(v:V)(tr:Tr)(_:vs=[v])(_:c8 H v tr)(_:tr.depth<=d)(_:d<=8)(_:dJ tr)(_:∀ H',aT H H'->Q (.str (wrT tr)) H')
theorem rz(h:dJ tr)(hd:tr.depth<=8):(wrT tr).length <= 2000:=by
 have e:(wrT tr).length=(wrT tr).cps.toList.length:=ag.symm;have h1:=pN h;have h2:=jc hd;have h3:jb 8=1659:=rfl;exact oo
theorem z0:b_ ["_law_tree","_law_sign"] ["_law_tree"] (aV G9):=eo
theorem Ae(T:Txt P w K mg t):∀ d:Nat,FO P w K mg base (d+1) t.O0 t.OW ["_law_tree"] (F0 d)
 | 0=>⟨fun vs H Q E h=>by obtain⟨v,tr,rfl,_⟩:=h;rfl,fun _ _ _ _ _ _ _ _ _ _ _ _ _ h=>by
  obtain⟨v,tr,rfl,_,hd,_⟩:=h;have:=tr.i9
  omega⟩
 | d + 1=>by
  have r9:=Ae T d;refine T.q100.F.rf (k:=d+1) z0 (fun vs H Q E h=>by obtain⟨v,tr,rfl,_⟩:=h;rfl) (fun g9 A outer s H vs Q E hr h=>?_);obtain⟨v,tr,rfl,ht,hd,h8,ow,k⟩:=h;have nd:=z0.nd;have hu:=fX hr
  refine⟨_,(ao (aR (aF aU (cy aJ (af 0) ak) az (aH _))
    (aq (aA (cy aJ (af 0) ak)))
    aO)
   (ao (aR (aF aU (cy aJ (af 0) ak) az (aH _))
    (aq (aA az))
    aO)
   (ao (aR (aF aU (cy aJ (af 0) ak) az (aH _))
    (aq (aA az))
    aO)
   (ao (aR (aF aU (cy aJ (af 0) ak) az (aH _))
    (aq (aA (aD bh az (dn T.q100 r9 hr aM (aa (cy aJ (af 0) ak) aj)))))
    aO)
   (ao (eT 1 nd (yI hu (J8 (mZ az az (mZ az az (mZ az az (mZ az az J7)))) rfl rfl (eA _ _) dk) (cy aJ (af 0) ak) (fun _ _=>rfl)))
   (aq (aA (aD bh (aD bh (aD bh (aD bh (aD bh (aD bh az (dn T.q100 r9 hr aM (aa (cy aJ (af 0) ak) aj))) az) (af 1)) az) (dn T.q100 r9 hr aM (aa (cy aJ (af 0) ak) aj))) az)))))))),?_⟩
  have sz:10000<=sizeLine:=by decide
  cases tr with
  | nm x =>
   obtain⟨a,rest,rfl,_⟩:=ht.open;have ha:=Hl ht;refine⟨_,Z,a,_,0,_,Z,Z,SqT.of ha,Z,Z,_,Z,aQ (fun _=>?_) (fun z=>absurd (cS rfl) z)⟩;exact⟨_,Z,a,_,1,_,Z,Z,SqT.of ha,Z,k H (aT.refl _)⟩
  | yes =>
   obtain⟨a,rest,rfl,ha,_,rS⟩:=ht.open;have:=rS rfl;cases this;refine⟨_,Z,a,_,0,_,Z,Z,SqT.of ha,Z,Z,_,Z,aQ (fun z=>absurd (V.str.inj (en z)) dk) (fun _=>?_)⟩;refine⟨_,Z,a,_,0,_,Z,Z,SqT.of ha,Z,Z,_,Z,aQ (fun _=>?_) (fun z=>absurd (cS rfl) z)⟩;exact k H (aT.refl _)
  | no =>
   obtain⟨a,rest,rfl,ha,_,rS⟩:=ht.open;have:=rS rfl;cases this;refine⟨_,Z,a,_,0,_,Z,Z,SqT.of ha,Z,Z,_,Z,aQ (fun z=>absurd (V.str.inj (en z)) dk) (fun _=>?_)⟩;refine⟨_,Z,a,_,0,_,Z,Z,SqT.of ha,Z,Z,_,Z,aQ (fun z=>absurd (V.str.inj (en z)) dk) (fun _=>?_)⟩;refine⟨_,Z,a,_,0,_,Z,Z,SqT.of ha,Z,Z,_,Z,aQ (fun _=>?_) (fun z=>absurd (cS rfl) z)⟩;exact k H (aT.refl _)
  | not u =>
   obtain⟨a,rest,rfl,_⟩:=ht.open;obtain⟨v1,ha,t1⟩:=Bu ht;have rV:u.depth+1<=d+1:=hd;refine⟨_,Z,a,_,0,_,Z,Z,SqT.of ha,Z,Z,_,Z,aQ (fun z=>absurd (V.str.inj (en z)) dk) (fun _=>?_)⟩;refine⟨_,Z,a,_,0,_,Z,Z,SqT.of ha,Z,Z,_,Z,aQ (fun z=>absurd (V.str.inj (en z)) dk) (fun _=>?_)⟩;refine⟨_,Z,a,_,0,_,Z,Z,SqT.of ha,Z,Z,_,Z,aQ (fun z=>absurd (V.str.inj (en z)) dk) (fun _=>?_)⟩;refine⟨_,Z,a,_,0,_,Z,Z,SqT.of ha,Z,Z,_,Z,aQ (fun _=>?_) (fun z=>absurd (cS rfl) z)⟩;have M0:dJ u:=ow;have hs:=rz M0 oo;refine⟨_,Z,a,_,1,v1,Z,Z,SqT.of ha,Z,v1,u,Z,t1,oo,oo,M0,fun H1 s1=>?_⟩;have e1:("~":Str).length=1:=by decide +kernel
   exact⟨_,_,Z,Z,oo,k H1 s1⟩
  | bin o x y =>
   obtain⟨a,rest,rfl,_⟩:=ht.open;obtain⟨v1,v2,ha,t1,t2⟩:=Bs ht;have rV:max x.depth y.depth+1<=d+1:=hd;have xD:dJ x:=fun z hz=>ow z (sN _ hz)
   have rp:dJ y:=fun z hz=>ow z (m_ _ hz)
   have hs1:=rz xD oo;have RU:=rz rp oo;refine⟨_,rfl,a,_,0,_,rfl,rfl,SqT.of ha,rfl,rfl,_,rfl,aQ (fun z=>absurd (V.str.inj (en z)) (by cases o<;>decide +kernel)) (fun _=>?_)⟩;refine⟨_,rfl,a,_,0,_,rfl,rfl,SqT.of ha,rfl,rfl,_,rfl,aQ (fun z=>absurd (V.str.inj (en z)) (by cases o<;>decide +kernel)) (fun _=>?_)⟩;refine⟨_,rfl,a,_,0,_,rfl,rfl,SqT.of ha,rfl,rfl,_,rfl,aQ (fun z=>absurd (V.str.inj (en z)) (by cases o<;>decide +kernel)) (fun _=>?_)⟩;refine⟨_,rfl,a,_,0,_,rfl,rfl,SqT.of ha,rfl,rfl,_,rfl,aQ (fun z=>absurd (V.str.inj (en z)) (by cases o<;>decide +kernel)) (fun _=>?_)⟩;refine fun p hp=>⟨au,Iz,rfl,odz,?_⟩
   have Kt:aT H (upd (upd H p (.dK [])) p (.dK (kj [] Iz))):=Fy hp;refine⟨_,Z,a,_,0,.str o.str,Z,Z,SqT.of (Kt _ _ ha),Z,p,.str (DS o),Z,?_,?_⟩
   ·rw[<- NK o]
    exact tP.k (k:=.inr o.str) au
   have lo:(DS o).length=1:=by rw[Ce];rfl
   have l1:("(":Str).length=1:=by decide +kernel
   have l2:(" ":Str).length=1:=by decide +kernel
   have l3:(")":Str).length=1:=by decide +kernel
   refine⟨_,Z,a,_,1,v1,Z,Z,SqT.of (Kt _ _ ha),Z,v1,x,Z,t1.mono Kt.b9,oo,oo,xD,fun H1 s1=>?_⟩;refine⟨_,_,Z,Z,oo,_,_,Z,Z,by rw[ai];exact oo,_,Z,_,_,Z,Z,by rw[ai,ai];exact oo,_,_,Z,Z,by rw[ai,ai,ai];exact oo,?_⟩;refine⟨_,Z,a,_,2,v2,Z,Z,SqT.of (s1 _ _ (Kt _ _ ha)),Z,v2,y,Z,t2.mono (Kt.trans s1).b9,oo,oo,rp,fun H2 s2=>?_⟩;refine⟨_,_,Z,Z,by rw[ai,ai,ai,ai];exact oo,_,_,Z,Z,by rw[ai,ai,ai,ai,ai];exact oo,?_⟩;exact k H2 ((Kt.trans s1).trans s2)
theorem xN(hl:rs.length=2^ns.length)(hs:sd≠0)(hi:∀ i,sd.testBit i=true->i<2^ns.length):∃ x,aN (sel rs sd)=some x:=by
 cases hc:aN (sel rs sd)with
 |some x=>exact⟨x,Z⟩
 | none =>
  refine absurd (cw fun i=>?_) hs;rw[fh];cases hb:sd.testBit i with
  |false=>rfl
  | true =>
   have:=eL.mpr ⟨i,by rw[hl];exact hi i hb,hb,rfl⟩;rw[gf hc]at this;cases this
def gY(rs:List Int)(side m:Nat):List Int:=((List.range m).filter fun i=>!side.testBit i).map fun i=>rs.getD i 0
theorem yw(rs:List Int)(side m:Nat):gY rs side (m+1)=gY rs side m++if side.testBit m=true then []else [rs.getD m 0]:=by
 unfold gY;rw[c9,cE,ax];cases h:side.testBit m with
 |true=>simp[h]
 |false=>simp[h]
theorem Cg(rs:List Int)(side m:Nat):(gY rs side m).length <= m:=by
 unfold gY;rw[dS];refine fA (cn _ _) ?_;rw[b5];exact qnr _
theorem nO(hl:rs.length=2^ns.length):gY rs (aP ns tr) rs.length=sel rs (aC ns tr):=by
 unfold gY sel fJ
 congr 1
 refine List.filter_congr fun i hi=>?_
 have hi:=eI.mp hi;rw[hl]at hi;rw[bO,gG,cS hi];simp
inductive yk(vs:List V)(H:Hp)(Q:VK)(E:XK):Prop
 |mk(r:Addr)(rs:List Int)(td:Nat)(_:vs=[.ref r,.int td])(_:H r=some (.tup (rs.map V.int)))(_:rs.length<=256)(_:∀(q l1 l2:Addr)(H':Hp),aT H H'->H' q=some (.tup [.ref l1,.ref l2])->H' l1=some (.lst ((sel rs td).map V.int))->H' l2=some (.lst ((gY rs td rs.length).map V.int))->Q (.ref q) H')
theorem pO(T:Txt P w K mg t):FM P w base T.q99 1 yk:=by
 refine T.q99.F.eK (N:=["_law_ranks","_law_told","_law_keeping","_law_breaking"]) eo ?_;rintro nd _ _ _ _ H _ _ _ hr ⟨r,rs,td,rfl,vv,hlen,k⟩
 refine⟨_,(ao (iR (i:=2) rfl ["_law_world","_law_rank","_law_told"] [none,none,some 1] nd rfl rfl (jC (af 0) T.zm) kr (fun _ _ _ _ _ _=>(jg (K:=K) (n:=2) rfl rfl (bG (g6 0 (kF (l:=["_law_world","_law_rank","_law_told"]))) (bG (g6 1 (kF (l:=["_law_world","_law_rank","_law_told"]))) eO)))) (fun _ _ _ _ _ _=>gr (aF aU (aD eY (aD my (g5 2) (af 0)) ak) ak (aH _))) (fun _ _ _ _ _ _=>(af 1)))
   (ao (iR (i:=3) rfl ["_law_world","_law_rank","_law_told"] [none,none,some 1] nd rfl rfl (jC (af 0) T.zm) kr (fun _ _ _ _ _ _=>(jg (K:=K) (n:=2) rfl rfl (bG (g6 0 (kF (l:=["_law_world","_law_rank","_law_told"]))) (bG (g6 1 (kF (l:=["_law_world","_law_rank","_law_told"]))) eO)))) (fun _ _ _ _ _ _=>gr (aF aU (aD eY (aD my (g5 2) (af 0)) ak) ak (aH _))) (fun _ _ _ _ _ _=>(af 1)))
   (aq (aA (bj (aa (af 2) (aa (af 3) aj))))))),?_⟩
 refine⟨_,Z,r,Z,⟨_,SqT.of vv⟩,?_⟩;refine gO (K:=K) (a:=r) (xs:=rs.map V.int) (fun i ys H'=>aT H H'/\ys=(fJ rs td i).map V.int) ⟨aT.refl _,rfl⟩ (lk (by rw[dS];exact oo)) (fun i ys H' ⟨_,e⟩=>by rw[e,dS];exact uL _ _ _) (fun i ys H' ⟨s1,_⟩=>SqT.of (s1 _ _ vv)) ?_ ?_
 ·rintro i y ys H1 hi ⟨s1,rfl⟩ e he
  rw[kT]at hi
  obtain⟨x,hx,rfl⟩:∃ x,rs[i]?=some x/\y=V.int x:=by
   cases q:rs[i]? with
   |none=>rw[q]at hi;cases hi
   |some x=>rw[q]at hi;exact⟨x,Z,(iE hi).symm⟩
  have s2:=s1.trans (aB (o:=.tup [.int i,.int x]) he);refine⟨e,_,Z,SqT.of au,Z,_,_,Z,_,_,Z,Z,⟨Z,trivial⟩,?_⟩;refine⟨_,Z,_,Z,_,_,Z,Z,ee i,_,_,Z,Z,?_⟩
  try dsimp -proj -iota only
  rw[tW];unfold dm;rw[rT];have ex:rs.getD i 0=x:=by rw[List.getD,hx];rfl
  cases hb:td.testBit i with
  | true =>
   refine⟨Z,_,Z,bQ ?_⟩;refine⟨_,Z,s2,?_⟩;rw[b6 rfl,ax,ex]
   rfl
  | false =>
   refine⟨Z,_,Z,bu ⟨s2,?_⟩⟩;rw[bq odz,bX]
 rintro ys H1 ⟨s1,rfl⟩ l1 rL;rw[dS];have s2:=s1.trans (aB (o:=.lst ((fJ rs td rs.length).map V.int)) rL);have AO:(upd H1 l1 (.lst ((fJ rs td rs.length).map V.int))) l1=some (.lst ((fJ rs td rs.length).map V.int)):=au;generalize upd H1 l1 (.lst ((fJ rs td rs.length).map V.int))=H2 at s2 AO ⊢;refine⟨_,Z,r,Z,⟨_,SqT.of (s2 _ _ vv)⟩,?_⟩;refine gO (K:=K) (a:=r) (xs:=rs.map V.int) (fun i ys H'=>aT H2 H'/\ys=(gY rs td i).map V.int) ⟨aT.refl _,rfl⟩ (lk (by rw[dS];exact oo)) (fun i ys H' ⟨_,e⟩=>by rw[e,dS];exact Cg _ _ _) (fun i ys H' ⟨s1,_⟩=>SqT.of (s1 _ _ (s2 _ _ vv))) ?_ ?_
 ·rintro i y ys H1 hi ⟨s1,rfl⟩ e he
  rw[kT]at hi
  obtain⟨x,hx,rfl⟩:∃ x,rs[i]?=some x/\y=V.int x:=by
   cases q:rs[i]? with
   |none=>rw[q]at hi;cases hi
   |some x=>rw[q]at hi;exact⟨x,Z,(iE hi).symm⟩
  have s2:=s1.trans (aB (o:=.tup [.int i,.int x]) he);refine⟨e,_,Z,SqT.of au,Z,_,_,Z,_,_,Z,Z,⟨Z,trivial⟩,?_⟩;refine⟨_,Z,_,Z,_,_,Z,Z,ee i,_,_,Z,Z,?_⟩
  try dsimp -proj -iota only
  rw[tW];unfold dm;rw[yw];have ex:rs.getD i 0=x:=by rw[List.getD,hx];rfl
  cases hb:td.testBit i with
  | true =>
   refine⟨Z,_,Z,bu ⟨s2,?_⟩⟩;rw[b6 rfl,bX]
  | false =>
   refine⟨Z,_,Z,bQ ?_⟩;refine⟨_,Z,s2,?_⟩;rw[bq odz,ax,ex]
   rfl
 rintro ys H3 ⟨s3,rfl⟩ l2 ko;rw[dS];have s4:=aB (o:=.lst ((gY rs td rs.length).map V.int)) ko;refine⟨_,Z,_,Z,lk obz,fun q hq=>?_⟩;have s5:=aB (o:=.tup [.ref l1,.ref l2]) hq;exact k q l1 l2 _ (((s2.trans s3).trans s4).trans s5) au (s5 _ _ (s4 _ _ (s3 _ _ AO))) (s5 _ _ au)
theorem IK(h:aC ns tr=0):aP ns tr=cu ns.length:=by
 have:=qx (ns:=ns) (t:=tr);rw[h]at this;have e:(cu ns.length^^^aP ns tr)^^^aP ns tr=0^^^aP ns tr:=by rw[this]
 rw[Nat.xor_assoc,Nat.xor_self,Nat.xor_zero,Nat.zero_xor]at e;exact e.symm
theorem lQ(hM:eC ns rs)(h:aP ns tr≠cu ns.length):∃ x,aN (sel rs (aC ns tr))=some x:=xN hM.len (fun z=>h (IK z)) fun i hb=>by
 rw[gG]at hb;exact en (aE.mp hb).1
theorem nP(hM:eC ns rs)(h:aP ns tr≠0):∃ x,aN (sel rs (aP ns tr))=some x:=xN hM.len h fun i hb=>by
 rw[bO]at hb;exact en (aE.mp hb).1
inductive GB(vs:List V)(H:Hp)(Q:VK)(E:XK):Prop
 |mk(i:Int)(_:vs=[.int i])(_:Q (.int (Builtin.Int.intBits i-1)) H)
theorem K9(T:Txt P w K mg t):FM P w base T.q7 1 GB:=by
 refine T.q7.F.eK (N:=["worlds"]) eo ?_;rintro nd _ _ _ _ H vs Q E hr ⟨i,rfl,k⟩;refine⟨_,(aq (aA (aD cW (mF PySem.F.plainAttrs_int PySem.F.slot_int_bit_length PySem.F.type_int_bit_length Dz (af 0)) ak))),?_⟩;exact⟨_,Z,Z,_,Z,Z,_,_,Z,Z,k⟩
def fB(rs:List Int)(wd:Nat):Nat:=fL (fun i=>wd.testBit i&&decide (aN (sel rs wd)=some (rs.getD i 0))) rs.length
inductive F'(vs:List V)(H:Hp)(Q:VK)(E:XK):Prop
 |mk(r:Addr)(rs:List Int)(wd:Nat)(_:vs=[.ref r,.int wd])(_:H r=some (.tup (rs.map V.int)))(_:rs.length<=256)(_:∀ H',aT H H'->Q (.int (fB rs wd:Nat)) H')
def Pf(t:Tr):Prop:=t.size<=100000/\t.depth<=110/\(∃ L:List Str,L.length<64/\∀ x∈t.names,x∈L)/\∀ x∈t.names,oX x
theorem Pf.fits{p:Addr}{t:Tr}(h:Pf t)(hp:H p=some (.tup (ns.map V.str)))(h8:ns.length<=8)(ic:ns.Nodup)(ht:c8 H v t):Fits H p v ns t:=⟨hp,h8,ic,ht,h.1,h.2.1,h.2.2.1,h.2.2.2⟩
def cF(ns:List Str)(tr:Tr)(rs:List Int)(u:Tr):Bool:=gh (aN (sel rs (aC ns u))) && !gh (aN (sel (dh ns tr rs) (aC ns u)))
def jU(b:Tr->Bool)(ts:List Tr)(m:Nat):List (Nat×Tr):=((List.range m).filter fun k=>b (ts.getD k .yes)).map fun k=>(k,ts.getD k .yes)
theorem sY(b:Tr->Bool)(ts:List Tr)(m:Nat):jU b ts (m+1)=jU b ts m++if b (ts.getD m .yes)=true then [(m,ts.getD m .yes)]else []:=by
 unfold jU;rw[c9,cE,ax];cases h:b (ts.getD m .yes)with
 |true=>rw[da (p:=fun k=>b (ts.getD k .yes)) h,ib];rfl
 |false=>rw[de (p:=fun k=>b (ts.getD k .yes)) (by show ¬b (ts.getD m .yes)=true;rw[h];decide),ib];rfl
theorem Fz(b:Tr->Bool)(ts:List Tr)(m:Nat):(jU b ts m).length <= m:=by
 unfold jU;rw[dS];refine fA (cn _ _) ?_;rw[b5];exact qnr _
def jI(ns:List Str)(near:Nat)(H:Hp)(v:V)(x:Nat×Tr):Prop:=∃ q,v=.ref q/\H q=some (.tup [.int x.1,.int (Builtin.Int.intBits ((near&&&aC ns x.2:Nat):Int)-1)])
theorem jI.mono{near:Nat}(k:gs H H'){x:Nat×Tr}(h:jI ns near H v x):jI ns near H' v x:=by
 obtain⟨q,e,hq⟩:=h;exact⟨q,e,k _ _ hq⟩
inductive F_(t:ku)(vs:List V)(H:Hp)(Q:VK)(E:XK):Prop
 |mk(a p r lo:Addr)(rs:List Int)(v:V)(ns:List Str)(tr:Tr)(us:List V)(ts:List Tr)(_:vs=[.ref a,v,.ref lo])(_:cb H a p r rs)(_:eC ns rs)(_:H p=some (.tup (ns.map V.str)))(_:ns.length<=8)(_:ns.Nodup)(_:c8 H v tr)(_:Pf tr)(_:H lo=some (.lst us))(_:us.length<=100)(_:Paired (c8 H) us ts)(_:(∀ u∈ts,Pf u))(_:(((∀ x∈tr.names,x∈ns)/\∀ u∈ts,∀ x∈u.names,x∈ns)->match aN (sel rs (aC ns tr))with|none=>∀ H',aT H H'->E (.ref t.zh) none H'|some _=>∀(l:Addr)(ps:List V)(H':Hp),aT H H'->H l=none->H' l=some (.lst ps)->Paired (jI ns (fB rs (aC ns tr)) H') ps (jU (cF ns tr rs) ts ts.length)->Q (.ref l) H'))(_:((¬((∀ x∈tr.names,x∈ns)/\∀ u∈ts,∀ x∈u.names,x∈ns))->∀ H',aT H H'->E (.ref t.zf) none H'))
theorem La(T:Txt P w K mg t):FM P w base T.q31 3 F':=by
 refine T.q31.F.eK (N:=["ranks","worlds","least"]) eo ?_;rintro nd _ _ _ _ _ _ _ _ hr ⟨r,rs,wd,rfl,vv,hlen,k⟩
 refine⟨_,(ao (DM 2 nd (dn T.q18 (oZ T) hr aM (aa (af 0) (aa (g5 1) aj))))
   (aq (aA (aZ (uF rfl) T.zY Bt.sum (aa (bW rfl ["world","rank","least","worlds"] [none,none,some 2,some 1] (jC (af 0) T.zm) kr (fun _ _ _ _ _ _=>(jg (K:=K) (n:=2) rfl rfl (bG (g6 0 (kF (l:=["world","rank","least","worlds"]))) (bG (g6 1 (kF (l:=["world","rank","least","worlds"]))) eO)))) (fun _ _ _ _ _ _=>gr (PW.pt (eV (aF aU (af 1) (g5 2) (aH _)) (dU (aF aU (dn T.q6 (oY T) hr aM (aa (g5 3) (aa (af 0) aj))) ak (aH _)))))) (fun _ _ _ _ _ _=>(aD gm ak (af 0)))) aj))))),?_⟩
 refine⟨_,Z,_,Z,r,rs,wd,Z,vv,hlen,fun H1 s1=>?_⟩;have wq:=s1 _ _ vv;refine⟨_,Z,r,Z,⟨_,SqT.of wq⟩,?_⟩
 refine gO (K:=K) (a:=r) (xs:=rs.map V.int) (fun i ys H'=>aT H1 H'/\ys=((List.range i).filter fun j=>wd.testBit j&&decide (aN (sel rs wd)=some (rs.getD j 0))).map fun j=>V.int ((2^j:Nat):Int)) ⟨aT.refl _,rfl⟩ (lk (by rw[dS];exact oo)) (fun i ys H' ⟨_,e⟩=>by
  rw[e,dS];refine fA (cn _ _) ?_
  rw[b5];exact qnr _) (fun i ys H' ⟨s2,_⟩=>SqT.of (s2 _ _ wq)) ?_ ?_
 ·rintro i y ys H2 hi ⟨s2,rfl⟩ e he
  have Nd:i<rs.length:=by
   have:=(List.getElem?_eq_some_iff.mp hi).1;rw[dS]at this;exact this
  rw[kT]at hi
  obtain⟨x,hx,rfl⟩:∃ x,rs[i]?=some x/\y=V.int x:=by
   cases q:rs[i]? with
   |none=>rw[q]at hi;cases hi
   |some x=>rw[q]at hi;exact⟨x,Z,(iE hi).symm⟩
  have s3:=s2.trans (aB (o:=.tup [.int i,.int x]) he);refine⟨e,_,Z,SqT.of au,Z,_,_,Z,_,_,Z,Z,⟨Z,Z,trivial⟩,?_⟩;have ex:rs.getD i 0=x:=by rw[List.getD,hx];rfl
  have es:((List.range (i+1)).filter fun j=>wd.testBit j&&decide (aN (sel rs wd)=some (rs.getD j 0)))=((List.range i).filter fun j=>wd.testBit j&&decide (aN (sel rs wd)=some (rs.getD j 0)))++if (wd.testBit i&&decide (aN (sel rs wd)=some x))=true then [i]else []:=by
   rw[c9,cE,m3,ex]
   rfl
  rw[es,ax];refine⟨_,rfl,_,rfl,(by cases aN (sel rs wd)<;>rfl),_,rfl,aQ (fun c=>?_) (fun c=>bu ⟨s3,?_⟩)⟩
  ·have c:aN (sel rs wd)=some x:=by
    have c:=en c;cases q:aN (sel rs wd)with
    |none=>rw[q]at c;cases c
    |some m=>rw[q]at c;rw[V.int.inj c]
   refine⟨_,Z,_,Z,wd,i,Z,Z,_,Z,?_⟩;rw[cS c,qA];unfold dm;cases hb:wd.testBit i with
   | true =>
    refine bQ ?_;refine⟨_,Z,_,_,Z,Z,⟨oo,oo,odz⟩,s3,?_⟩
    try dsimp only
    rw[b6 rfl,bo];simp
   | false =>
    refine bu ⟨s3,?_⟩;rw[bq odz];simp
  have c:¬aN (sel rs wd)=some x:=fun z=>c (cS (by rw[z];rfl))
  rw[gp c,oP,bq odz];simp
 rintro ys H2 ⟨s2,rfl⟩ l hl;rw[dS];refine⟨l,((List.range rs.length).filter fun j=>wd.testBit j&&decide (aN (sel rs wd)=some (rs.getD j 0))).map fun j=>((2^j:Nat):Int),Z,SqL.of (by rw[au,eD];rfl),?_⟩;have q:=k _ ((s1.trans s2).trans (aB (o:=.lst (((List.range rs.length).filter fun j=>wd.testBit j&&decide (aN (sel rs wd)=some (rs.getD j 0))).map fun j=>V.int ((2^j:Nat):Int))) hl));unfold fB at q;rw[<- qQ]at q;exact q
theorem Lb(T:Txt P w K mg t):FM P w base T.q32 122 (F_ t):=by
 refine T.q32.F.eK (N:=["mind","tree","others","each","behind","against","pairs","place","other"]) eo ?_;rintro nd _ _ _ _ H _ _ _ hr ⟨a,p,r,lo,rs,v,ns,tr,us,ts,rfl,hm,hM,hp,h8,ic,ht,hok,K0,E6,R0,MR,k1,k2⟩;have gI:=bg R0
 refine ⟨_,(ao (dX i7 rfl (cJ (aD wu (bz (aa (af 1) aj)) (af 2))) (g6 3 nd)
    (aq (bA (dn T.q8 (yU T) hr bx (aa (cy aJ (af 0) ak) (aa (af 3) aj))))))
   (ao (eT 4 nd (dn T.q29 (yW T) hr bx (aa (af 0) (aa (af 1) aj))))
   (ao (eT 5 nd (dn T.q31 (La T) hr aM (aa (cy aJ (af 0) ak) (aa (dn T.q16 (m9 T) hr bx (aa (cy aJ (af 0) ak) (aa (af 1) aj))) aj))))
   (ao (eT 6 nd (bz aj))
   (ao (dX i7 rfl (Bh (af 2) T.zm) (mj (n:=2) rfl (bG (g6 7 nd) (bG (g6 8 nd) eO)))
    (aq (aR (PW.pt (eV (bV (dn T.q20 (p7 T) hr bx (aa (af 0) (aa (af 8) aj)))) (dU (cP (bV (dn T.q20 (p7 T) hr bx (aa (af 4) (aa (af 8) aj))))))))
     (aq (bA (bY PySem.F.plainAttrs_list PySem.F.slot_list_append PySem.F.type_list_append cL (af 6) (aa (bj (aa (af 7) (aa (dn T.q7 (K9 T) hr aM (aa (aD eY (af 5) (dn T.q16 (m9 T) hr bx (aa (cy aJ (af 0) ak) (aa (af 8) aj)))) aj)) aj))) aj))))
     aO)))
   (aq (aA (af 6)))))))),?_⟩
 refine⟨_,Z,lk obz,fun l1 rL=>?_⟩;have s1:=aB (o:=.lst [v]) rL;refine⟨_,Z,l1,lo,_,_,Z,Z,au,s1 _ _ K0,lk (by show 1+us.length<=_;exact oo),fun l2 ko=>?_⟩;have s2:=aB (o:=.lst ([v]++us)) ko;have h2:(upd (upd H l1 (.lst [v])) l2 (.lst ([v]++us))) l2=some (.lst ([v]++us)):=au;have j_:=s1.trans s2;generalize upd (upd H l1 (.lst [v])) l2 (.lst ([v]++us))=H2 at h2 j_ ⊢;have KS:Paired (c8 H2) ([v]++us) ([tr]++ts):=dg (.cons (ht.mono j_.b9) .nil) (cO j_.b9 R0)
 have KA:∀ u∈[tr]++ts,Pf u:=fun u hu=>by
  rcases aw.mp hu with hu|hu
  ·rw[ar.mp hu];exact hok
  exact MR u hu
 refine⟨l2,rfl,⟨_,SqL.of h2⟩,fW (K:=K) (a:=l2) (xs:=[v]++us)
  (fun i σ H'=>∃(o3:Option V),σ=[some (.ref a),some v,some (.ref lo),o3,none,none,none,none,none]/\aT H2 H'/\∀ u∈([tr]++ts).take i,∀ x∈u.names,x∈ns)
  ⟨none,rfl,aT.refl _,oz⟩ (fun i σ H' _ ⟨_,_,s',_⟩=>SqL.of (s' _ _ h2)) ?_ ?_⟩
 ·rintro i z σ H3 hi ⟨o3,rfl,s3,kH⟩
  obtain⟨u,Ic,hz⟩:=bN KS i z hi;obtain⟨z1,z2,z3,z4⟩:=KA u (qh Ic);have xA:=j_.trans s3;have rq:=hm.mono xA;refine⟨_,Z,a,_,0,.ref p,Z,Z,SqT.of rq.1,Z,_,Z,p,z,ns,u,Z,xA _ _ hp,hz.mono s3.b9,z1,z3,z4,fun hall H4 s4=>?_,fun ow H4 s4=>k2 (fun q=>ow ?_) _ (xA.trans s4)⟩
  ·refine⟨_,Z,s3.trans s4,fun w hw=>?_⟩
   rw[pj,Ic]at hw;rcases aw.mp hw with hw|hw
   ·exact kH w hw
   obtain rfl:w=u:=by simpa using hw
   exact hall
  rcases aw.mp (qh Ic)with h|h
  ·rw[ar.mp h];exact q.1
  exact q.2 u h
 rintro σ H3 ⟨o3,rfl,s3,kH⟩
 have FA:∀ u∈[tr]++ts,∀ x∈u.names,x∈ns:=by
  have e:([v]++us).length=([tr]++ts).length:=bg KS;rw[e,bS]at kH;exact kH
 have hall:∀ x∈tr.names,x∈ns:=FA tr qms;have Fu:∀ u∈ts,∀ x∈u.names,x∈ns:=fun u hu=>FA u (m_ _ hu)
 have k1:=k1 ⟨hall,Fu⟩;have xA:=j_.trans s3;have rq:=hm.mono xA;refine⟨_,Z,_,Z,a,p,r,rs,v,ns,tr,Z,rq,hM,hok.fits (xA _ _ hp) h8 ic (ht.mono xA.b9),fun _=>?_,fun z=>absurd hall z⟩;cases hb:aN (sel rs (aC ns tr))with
 | none =>
  rw[hb]at k1;exact fun H4 s4=>k1 H4 (xA.trans s4)
 | some x =>
  rw[hb]at k1;intro b q H4 s4 Qx;have G':=xA.trans s4;have AL:=hm.mono G';refine⟨_,Z,a,_,1,.ref r,Z,Z,SqT.of AL.1,Z,_,Z,a,_,0,.ref p,Z,Z,SqT.of AL.1,Z,_,Z,p,v,ns,tr,Z,hok.fits (G' _ _ hp) h8 ic (ht.mono G'.b9),fun _ H5 s5=>?_,fun z=>absurd hall z⟩;have UW:=G'.trans s5;have AJ:=hm.mono UW;refine⟨r,rs,aC ns tr,Z,AJ.2.1,AJ.2.2,fun H6 s6=>?_⟩;have Rp:=UW.trans s6;refine⟨lk obz,fun l hl=>?_⟩;have s7:=aB (o:=.lst []) hl;have IL:H l=none:=Rp.free hl
  refine⟨_,rfl,lo,rfl,⟨_,SqL.of ((Rp.trans s7) _ _ K0)⟩,wL (K:=K) (a:=lo) (xs:=us)
   (fun i σ H'=>∃(o7 o8:Option V)(ps:List V),σ=[some (.ref a),some v,some (.ref lo),o3,some (.ref b),some (.int (fB rs (aC ns tr):Nat)),some (.ref l),o7,o8]/\aT H H'/\gs H6 H'/\H' l=some (.lst ps)/\Paired (jI ns (fB rs (aC ns tr)) H') ps (jU (cF ns tr rs) ts i))
   ⟨none,none,[],rfl,Rp.trans s7,s7.b9,au,.nil⟩ (fun i σ H' _ ⟨_,_,_,_,s',_⟩=>SqL.of (s' _ _ K0)) ?_ ?_⟩
  ·rintro i z σ H8 hi ⟨o7,o8,ps,rfl,s8,t8,Sl,KP⟩ d rV
   have hi100:i<us.length:=(List.getElem?_eq_some_iff.mp hi).1;obtain⟨u,Ic,hz⟩:=bN R0 i z hi;have eu:ts.getD i .yes=u:=by rw[List.getD,Ic];rfl
   have _N:=MR u (qh Ic);have nu:=Fu u (qh Ic);have v1:=aB (o:=.tup [.int i,z]) rV;refine⟨d,_,Z,SqT.of au,Z,_,_,Z,_,_,Z,Z,?_⟩;have s9:=s8.trans v1;have t9:=t8.trans v1.b9;have QB:=v1 _ _ Sl;have ID:=Paired.gV KP fun _ _ q=>jI.mono v1.b9 q
   generalize upd H8 d (.tup [.int i,z])=H9 at s9 t9 QB ID ⊢;have fu:∀{H':Hp},aT H9 H'->Fits H' p z ns u:=fun {H'} s'=>_N.fits ((s9.trans s') _ _ hp) h8 ic (hz.mono (s9.trans s').b9)
   have Se:cb H9 b p q (dh ns tr rs):=by
    have e:=(Qx.mono s5).mono s6;exact⟨t9 _ _ e.1,t9 _ _ e.2.1,e.2.2⟩
   have el:=sY (cF ns tr rs) ts i;rw[eu]at el;have lb:cF ns tr rs u=(gh (aN (sel rs (aC ns u))) && !gh (aN (sel (dh ns tr rs) (aC ns u)))):=rfl
   have skip:cF ns tr rs u=false->∀{H':Hp},aT H9 H'->aT H H'/\gs H6 H'/\H' l=some (.lst ps)/\Paired (jI ns (fB rs (aC ns tr)) H') ps (jU (cF ns tr rs) ts (i+1)):=fun e {H'} s'=>by
    rw[e,bq odz,bX]at el;rw[el];exact⟨s9.trans s',t9.trans s'.b9,s' _ _ QB,Paired.gV ID fun _ _ q=>jI.mono s'.b9 q⟩
   refine⟨_,Z,_,Z,a,p,r,rs,z,ns,u,Z,hm.mono s9,fu (aT.refl _),fun _ H10 L3=>⟨_,Z,aQ (fun c1=>?_) (fun c1=>bu ?_)⟩,fun z=>absurd nu z⟩
   ·refine⟨_,Z,_,Z,b,p,q,_,z,ns,u,Z,Se.mono L3,fu L3,fun _ H11 UU=>⟨_,Z,aQ (fun c2=>?_) (fun c2=>?_)⟩,fun z=>absurd nu z⟩
    ·have DE:=L3.trans UU
     have Sg:=hm.mono (s9.trans DE);have Sm:=DE _ _ QB;refine⟨_,Z,.inl ⟨Z,_,SqL.of Sm⟩,_,Z,_,Z,_,Z,a,_,0,.ref p,Z,Z,SqT.of Sg.1,Z,_,Z,p,z,ns,u,Z,fu DE,fun _ Uz Ro=>?_,fun z=>absurd nu z⟩;have LZ:=DE.trans Ro;refine⟨_,_,Z,Z,_,Z,lk obz,fun qt hqt=>?_⟩;have iP:=aB (o:=.tup [.int i,.int (Builtin.Int.intBits (Builtin.bitAnd ((fB rs (aC ns tr):Nat):Int) ((aC ns u:Nat):Int))-1)]) hqt;have M_:=iP _ _ (LZ _ _ QB);have G1:=LZ.trans iP;refine⟨l,ps,_,Z,Z,M_,dR ?_,?_⟩
     ·have:=bg KP
      have:=Fz (cF ns tr rs) ts i;exact oo
     have eb:cF ns tr rs u=true:=by rw[lb,c1,hW];exact c2
     rw[eb,b6 rfl]at el;have kt:gs (upd Uz qt (.tup [.int i,.int (Builtin.Int.intBits (Builtin.bitAnd ((fB rs (aC ns tr):Nat):Int) ((aC ns u:Nat):Int))-1)])) (upd (upd Uz qt (.tup [.int i,.int (Builtin.Int.intBits (Builtin.bitAnd ((fB rs (aC ns tr):Nat):Int) ((aC ns u:Nat):Int))-1)])) l (.lst (ps++[.ref qt]))):=wR M_;refine⟨_,_,ps++[.ref qt],Z,fun bb o OF=>?_,(t9.trans G1.b9).trans kt,au,?_⟩
     ·rw[aG (aK OF IL)]
      exact G1 _ _ (s9 _ _ OF)
     rw[el];refine dg (Paired.gV ID fun _ _ q=>jI.mono (G1.b9.trans kt) q) (.cons ⟨qt,rfl,?_⟩ .nil);have:=kt _ _ (au (H:=Uz) (a:=qt) (o:=.tup [.int i,.int (Builtin.Int.intBits (Builtin.bitAnd ((fB rs (aC ns tr):Nat):Int) ((aC ns u:Nat):Int))-1)]));rw[band]at this ⊢;exact this
    have eb:cF ns tr rs u=false:=by
     rw[lb,c1,hW];exact iL.mpr c2
    obtain⟨g1,g2,g3,g4⟩:=skip eb (L3.trans UU);exact⟨_,_,ps,Z,g1,g2,g3,g4⟩
   have eb:cF ns tr rs u=false:=by
    rw[lb,iL.mpr c1]
    rfl
   obtain⟨g1,g2,g3,g4⟩:=skip eb L3;exact⟨_,_,ps,Z,g1,g2,g3,g4⟩
  rintro σ H8 ⟨o7,o8,ps,rfl,s8,t8,Sl,KP⟩;rw[gI]at KP;exact⟨_,Z,k1 l ps H8 s8 IL Sl KP⟩
theorem rA(h:eC ns rs)(tr:Tr):gh (aN (sel rs (aC ns tr)))=true↔rY ns rs tr:=by
 rw[<- h.DO tr];cases aN (sel rs (aC ns tr))with
 |none=>exact⟨fun _=>trivial,fun _=>rfl⟩
 |some x=>exact⟨fun c=>en c,fun c=>cS c⟩
theorem xO(h:n≠0):((Builtin.Int.intBits ((n:Nat):Int):Nat):Int)-1=((n.log2:Nat):Int)/\n.testBit n.log2=true:=by
 constructor
 ·unfold Builtin.Int.intBits
  rw[bq (by simpa using h),sj];exact oo
 exact Nat.testBit_log2 h
theorem Ci{t u:Tr}{x y:Int}(h:lj ns t rs x y)(hM:eC ns rs)(hl:cF ns t rs u=true): ∃ j,((Builtin.Int.intBits ((fB rs (aC ns t)&&&aC ns u:Nat):Int):Nat):Int)-1=((j:Nat):Int)/\j<2^ns.length/\rs.getD j 0=x/\(aP ns t|||aP ns u).testBit j=false:=by
 have nb:∀ i,(fB rs (aC ns t)).testBit i=(decide (i<rs.length)&&((aC ns t).testBit i&&decide (aN (sel rs (aC ns t))=some (rs.getD i 0)))):=fun i=>dG _ _ _
 have g7:fB rs (aC ns t)&&&aC ns u≠0:=by
  intro z;unfold cF at hl;obtain⟨l1,l2⟩:=aE.mp hl;have l2:¬gh (aN (sel (dh ns t rs) (aC ns u)))=true:=by simpa using l2
  refine l2 ((rA (hM.AU t) u).mpr ((uM h.br hM).mpr ⟨(rA hM u).mp l1,fun i hi he e=>?_⟩));cases hu:bw (inW ns i) u with
  |true=>rfl
  | false =>
   have:=bP (fun w=>w.testBit i) z;simp only[h_,fh]at this;rw[nb,(jm hi).mpr hu,(jm hi).mpr he,cS (show i<rs.length by rw[h.len];exact hi),h.br,e]at this;simp at this
 obtain⟨e1,e2⟩:=xO g7;refine⟨_,e1,?_⟩;rw[h_,nb]at e2;obtain⟨a1,a2⟩:=aE.mp e2;obtain⟨a3,a4⟩:=aE.mp a1;obtain⟨a5,a6⟩:=aE.mp a4;have hj:=en a3;rw[h.len]at hj;refine⟨hj,?_,?_⟩
 ·have a6:=en a6
  rw[h.br]at a6;exact(iE a6).symm
 rw[fN,kZ hj,kZ hj,a5,a2]
 rfl
def NP(H:Hp)(v:V)(ns:List Str):Prop:=∃(a p:Addr)(u:V),v=.ref a/\H a=some (.tup [.ref p,u])/\H p=some (.tup (ns.map V.str))
inductive DD(t:ku)(vs:List V)(H:Hp)(Q:VK)(E:XK):Prop
 |mk(l:Addr)(us:List V)(nss:List (List Str))(_:vs=[.ref l])(_:H l=some (.lst us))(_:Paired (NP H) us nss)(_:(nss=[]->E (.ref t.zH) none H))(_:(∀ n r,nss=n::r->(∀ m∈nss,m=n)->Q .non H))(_:(∀ n r,nss=n::r->(¬ ∀ m∈nss,m=n)->E (.ref t.zI) none H))
theorem nQ{α β:Type}{F:α->β->Prop}{a:List α}{b:List β}(h:Paired F a b):a.length=b.length:=bg h
theorem IV(T:Txt P w K mg t):FM P w base T.q24 1 (DD t):=by
 refine T.q24.F.eK (N:=["minds","mind"]) eo ?_;rintro nd _ _ _ _ H _ _ _ hr ⟨l,us,nss,rfl,hl,hp,k0,k1,k2⟩;have hu:=fX hr;have hlen:=nQ hp
 refine ⟨_,(ao (aR (aF aU (aZ aW T.zd Bt.len (aa (af 0) aj)) ak (aH _))
    (aq (dF eQ rfl T._l T.Z' (aa az aj)))
    aO)
   (aq (dX i7 rfl (cJ (af 0)) (g6 1 nd)
    (aq (aR (aF (yP (eJ hu)) (cy aJ (af 1) ak) (cy aJ (cy bB (af 0) ak) ak) (aH _))
     (aq (dF eQ rfl T._j T.Z7 (aa az aj)))
     aO))))),?_⟩
 refine⟨_,Z,l,_,Z,.inl (SqL.of hl),Z,_,Z,?_⟩;cases nss with
 | nil =>
  have e:us.length=0:=hlen;rw[e];exact bQ ⟨so,k0 rfl⟩
 | cons n r =>
  refine aQ (fun c=>?_) (fun _=>?_)
  ·have c:=en c
   have c:((us.length:Nat):Int)=0:=V.int.inj c;rw[bp]at hlen;exact oo
  obtain⟨u0,us',rfl⟩:∃ u us',us=u::us':=by
   cases us with
   |nil=>rw[bp]at hlen;cases hlen
   |cons u us'=>exact⟨u,us',Z⟩
  obtain⟨y0,Vd,a0,p0,w0,rfl,SI,IG⟩:=bN hp 0 u0 rfl;obtain rfl:n=y0:=iE Vd
  refine⟨_,rfl,l,rfl,⟨_,SqL.of hl⟩,fW (K:=K) (a:=l) (xs:=V.ref a0::us') (fun i σ H2=>∃ o:Option V,σ=[some (.ref l),o]/\H2=H/\∀ m∈(n::r).take i,m=n)
   ⟨none,rfl,rfl,oz⟩ (fun i σ H2 _ ⟨_,_,e,_⟩=>by subst e;exact SqL.of hl) ?_ ?_⟩
  ·rintro i y σ H2 hi ⟨o,rfl,rfl,kH⟩
   obtain⟨m,hm,a1,p1,w1,rfl,ha1,hp1⟩:=bN hp i y hi;refine⟨_,Z,a1,_,0,.ref p1,Z,Z,SqT.of ha1,Z,_,Z,l,_,0,.ref a0,Z,Z,SqL.of hl,bR (j:=0) rfl,a0,_,0,.ref p0,Z,Z,SqT.of SI,Z,p1,p0,m,n,Z,Z,SqT.of hp1,SqT.of IG,_,Z,?_⟩
   by_cases Qr:m=n
   ·rw[cS Qr]
    refine bu ⟨_,rfl,rfl,fun z hz=>?_⟩;rw[pj,hm]at hz;rcases aw.mp hz with hz|hz
    ·exact kH z hz
    have:z=m:=by simpa using hz
    rw[this];exact Qr
   rw[gp Qr];exact bQ ⟨so,k2 n r rfl fun z=>Qr (z m (qh hm))⟩
  rintro σ H2 ⟨o,rfl,rfl,kH⟩;rw[hlen,bS]at kH;exact k1 n r rfl kH
def ma(H:Hp)(p:Addr)(v:V)(rs:List Int):Prop:=∃(a r:Addr),v=.ref a/\H a=some (.tup [.ref p,.ref r])/\H r=some (.tup (rs.map V.int))
theorem ma.b9(s:gs H H'){p:Addr}:ma H p v rs->ma H' p v rs:=fun⟨a,r,h1,h2,h3⟩=>⟨a,r,h1,s _ _ h2,s _ _ h3⟩
theorem ma.mono(s:aT H H'){p:Addr}(h:ma H p v rs):ma H' p v rs:=h.b9 s.b9
def qg(rss:List (List Int))(i:Nat):Bool:=rss.all fun rs=>decide (rs.getD i 0=0)
def ud(N:Nat)(rss:List (List Int)):List Int:=((List.range N).filter (qg rss)).map fun i:Nat=>(i:Int)
inductive CS(vs:List V)(H:Hp)(Q:VK)(E:XK):Prop
 |mk(l p:Addr)(us:List V)(rss:List (List Int))(i:Nat)(_:vs=[.ref l,.int i])(_:H l=some (.lst us))(_:us.length<=100)(_:Paired (ma H p) us rss)(_:(∀ rs∈rss,i<rs.length))(_:∀ H',aT H H'->Q (.bl (qg rss i)) H')
inductive y8(vs:List V)(H:Hp)(Q:VK)(E:XK):Prop
 |mk(l p:Addr)(ns:List Str)(us:List V)(rss:List (List Int))(N:Nat)(_:vs=[.ref l])(_:H l=some (.lst us))(_:H p=some (.tup (ns.map V.str)))(_:Paired (ma H p) us rss)(_:0<us.length)(_:us.length<=100)(_:N<=256)(_:(∀ rs∈rss,rs.length=N))(_:∀(q:Addr)(H':Hp),aT H H'->H q=none->H' q=some (.lst ((ud N rss).map V.int))->Q (.ref q) H')
theorem IW(T:Txt P w K mg t):FM P w base T.q26 1 CS:=by
 refine T.q26.F.eK (N:=["minds","world"]) eo ?_;rintro nd _ _ _ _ H _ _ _ hr ⟨l,p,us,rss,i,rfl,hl,Jn,IE,hi,k⟩;have hlen:=nQ IE;refine⟨_,(aq (aA (aZ (lC rfl) T.zF Bt.all (aa (bW rfl ["mind","world"] [none,some 1] (cJ (af 0)) kr (fun _ _ _ _ _ _=>(g6 0 (kF (l:=["mind","world"])))) (fun _ _ _ _ _ _=>cM) (fun _ _ _ _ _ _=>(b8 aU (cy (jX (K:=K)) (cy (jX (K:=K)) (af 0) ak) (g5 1)) ak (aH _)))) aj)))),?_⟩;refine⟨_,Z,l,Z,⟨_,SqL.of hl⟩,?_⟩;refine fU (K:=K) (a:=l) (xs:=us) (fun j ys H'=>H'=H/\ys=((rss.take j).map fun rs=>decide (rs.getD i 0=0)).map V.bl) ⟨rfl,rfl⟩ (lk oo) (fun j ys H' ⟨_,e⟩=>by rw[e,dS,dS,bE];exact oo) (fun j ys H' ⟨e,_⟩=>by subst e;exact SqL.of hl) ?_ ?_
 ·rintro j z ys H' hj ⟨rfl,rfl⟩
  obtain⟨rs,P8,a,r,rfl,ha,ro⟩:=bN IE j z hj;have hir:=hi rs (qh P8)
  have i2:qo (rs.map V.int) (i:Int)=some (V.int (rs.getD i 0)):=by
   refine bR ?_;rw[kT,List.getD,List.getElem?_eq_getElem hir]
   rfl
  refine⟨⟨Z,trivial⟩,?_⟩;refine⟨_,Z,a,_,1,.ref r,Z,Z,SqT.of ha,Z,_,Z,r,_,_,_,Z,Z,SqT.of ro,i2,Z,Z,?_⟩;rw[pj,P8,ax,ax];have e:decide (V.int (rs.getD i 0)=V.int 0)=decide (rs.getD i 0=0):=decide_eq_decide.mpr ⟨fun z=>V.int.inj z,fun z=>bP V.int z⟩;rw[e]
  rfl
 rintro ys H' ⟨rfl,rfl⟩ lc D8;refine⟨lc,_,Z,SqL.of au,?_⟩
 have e:((rss.take us.length).map fun rs=>decide (rs.getD i 0=0)).all id=qg rss i:=by
  rw[hlen,bS,uj]
  rfl
 rw[e];exact k _ (aB D8)
theorem FJ(T:Txt P w K mg t):FM P w base T.q27 2 y8:=by
 refine T.q27.F.eK (N:=["minds"]) eo ?_;rintro nd _ _ _ _ H _ _ _ hr ⟨l,p,ns,us,rss,N,rfl,hl,hp,IE,h0,Jn,hN,KO,k⟩;have hlen:=nQ IE
 refine⟨_,(ao (bA (dn T.q24 (IV T) hr bx (aa (g5 0) aj)))
   (aq (aA (bW rfl ["world","minds"] [none,some 0] (gw T.zp (aa (aZ aW T.zd Bt.len (aa (cy aJ (cy bB (g5 0) ak) ak) aj)) aj)) kr (fun _ _ _ _ _ _=>(g6 0 (kF (l:=["world","minds"])))) (fun _ _ _ _ _ _=>gr (bV (dn T.q26 (IW T) hr aM (aa (g5 1) (aa (af 0) aj))))) (fun _ _ _ _ _ _=>(af 0)))))),?_⟩
 have D7:Paired (NP H) us (List.replicate us.length ns):=by
  clear k KO h0 Jn hl
  induction IE with
  |nil=>exact .nil
  | cons r _ ih =>
   obtain⟨a,b,h1,h2,h3⟩:=r;exact .cons ⟨a,p,.ref b,h1,h2,hp⟩ (ih (by simpa using hlen))
 refine⟨_,Z,l,us,_,Z,hl,D7,fun z=>?_,fun n r Vs _=>?_,fun n r Vs z=>?_⟩
 ·have:=bP List.length z
  rw[d_]at this;exact absurd this (by show us.length≠0;exact oo)
 rotate_left
 ·refine absurd (fun m hm=>?_) z
  have hm1:=(fk.mp hm).2;have xD:n∈List.replicate us.length ns:=by rw[Vs];exact qms
  rw[hm1,(fk.mp xD).2]
 obtain⟨u0,us',rfl⟩:∃ u us',us=u::us':=by
  cases us with
  |nil=>exact absurd h0 oz
  |cons u us'=>exact⟨u,us',Z⟩
 obtain⟨x0,_5,a0,r0,rfl,SI,vv⟩:=bN IE 0 u0 rfl;have f1:=KO x0 (qh _5);refine⟨_,Z,l,_,0,.ref a0,Z,Z,SqL.of hl,bR (j:=0) rfl,a0,_,1,.ref r0,Z,Z,SqT.of SI,Z,r0,_,Z,.inr (SqT.of vv),_,Z,oo,by rw[dS,f1];exact oo,?_⟩;rw[dS,f1,bo];refine jN (n:=N) (fun j zs H'=>aT H H'/\zs.length<=j/\zs=(((List.range j).filter (qg rss)).map fun i:Nat=>(i:Int)).map V.int) ⟨aT.refl _,qnr _,rfl⟩ (lk oo) (fun j zs H' ⟨_,e,_⟩=>e) ?_ ?_
 ·rintro j zs H' hj ⟨s1,Va,rfl⟩
  refine⟨⟨Z,trivial⟩,?_⟩;refine⟨_,Z,_,Z,l,p,_,rss,j,by rw[fz];rfl,s1 _ _ hl,Jn,Paired.gV IE fun _ _ z=>ma.mono s1 z,fun rs P8=>by rw[KO rs P8];exact hj,fun H2 s2=>?_⟩;rw[c9,cE];cases hb:qg rss j with
  | true =>
   refine⟨_,Z,bQ ⟨_,Z,s1.trans s2,by rw[aS];exact Nat.add_le_add Va (qnr _),?_⟩⟩;rw[da hb,ib,ax,ax,fz]
   rfl
  | false =>
   refine⟨_,Z,bu ⟨s1.trans s2,oo,?_⟩⟩;rw[de (by rw[hb];decide),ib,bX]
 rintro zs H' ⟨s1,_,rfl⟩ q hq;exact k q _ (s1.trans (aB hq)) (s1.free hq) au
def fP(rs:List Int):List Nat:=(List.range rs.length).filter fun i=>decide (rs.getD i 0=0)
def jZ(n:Nat)(rs:List Int):Str:=Txt.join " " ((fP rs).map (fj n))
def ue:gR:=fun ns rs ts txt=>txt=jZ ns.length rs
theorem xP(rs:List Int):ud rs.length [rs]=(fP rs).map fun i:Nat=>(i:Int):=by
 unfold ud fP qg
 congr 1
 refine List.filter_congr fun i _=>?_
 show(decide (rs.getD i 0=0)&&true)=_;rw[qA]
theorem u5(rs:List Int):(fP rs).length <= rs.length:=by
 unfold fP;refine fA (cn _ _) ?_;rw[b5];exact qnr _
theorem FN(z:Str)(ys:List Str):(Txt.join z ys).length <= (ys.map (·.length)).sum+ys.length*z.length:=by
 have:=size_glued z ys;show(Builtin.Str.glued z ys).length <= _;rw[this];exact e_ (gx _ (Nat.sub_le _ _)) _
theorem rB{m:Nat}(h:∀ y∈ys,y.length<=m):(ys.map (·.length)).sum <= ys.length*m:=by
 induction ys with
 |nil=>exact mf _
 | cons y r ih =>
  rw[b3,List.sum_cons,bp,Nat.succ_mul];have:=h y qms;have:=ih fun z hz=>h z (k8 _ hz)
  exact oo
theorem pP(n wd:Nat):(fj n wd).length <= n:=by
 unfold fj;refine fA (FN _ _) ?_;have e0:("":Str).length=0:=rfl;rw[e0,Nat.mul_zero,ub];refine fA (rB (m:=1) fun y hy=>?_) ?_
 ·obtain⟨i,_,rfl⟩:=ck.mp hy
  exact ua (jJ wd i).1
 rw[dS,b5];exact oo
theorem qD(h8:n<=8)(h:rs.length<=256):(((fP rs).map (fj n)).map (·.length)).sum+((fP rs).map (fj n)).length*(" ":Str).length <= 5000:=by
 have l1:(" ":Str).length=1:=by decide +kernel
 have h1:=rB (ys:=(fP rs).map (fj n)) (m:=8) fun y hy=>by
  obtain⟨i,_,rfl⟩:=ck.mp hy;exact fA (pP n i) h8
 have h2:=u5 rs;rw[dS]at h1 ⊢;rw[l1];have:(fP rs).length*8<=256*8:=gx _ oo;exact oo
theorem q_:b_ ["mind","trees"] ["mind","trees"] (aV Ud):=eo
theorem FP(T:Txt P w K mg t):FM P w base T.q85 123 (y_ ue):=by
 refine T.q85.F.KA (k:=122) q_ (fun g9 A outer s H vs Q E hr h=>?_);obtain⟨a,p,r,l,rs,us,ns,ts,txt,rfl,hm,hM,hp,h8,ic,hl,hP,hok,hL,k⟩:=h;have hL:txt=jZ ns.length rs:=hL;subst hL;have nd:=q_.nd;refine⟨_,(aq (aA (bY PySem.F.plainAttrs_str PySem.F.slot_str_join PySem.F.type_str_join jW az (aa (bW rfl ["world","mind"] [none,some 0] (cJ (dn T.q27 (FJ T) hr bx (aa (bz (aa (g5 0) aj)) aj))) kr (fun _ _ _ _ _ _=>(g6 0 (kF (l:=["world","mind"])))) (fun _ _ _ _ _ _=>cM) (fun _ _ _ _ _ _=>(dn T.q82 (xH T) hr aM (aa (cy (jX (K:=K)) (g5 1) ak) (aa (af 0) aj))))) aj)))),?_⟩;have mn:=hm.2.2;refine⟨Z,_,Z,lk obz,fun l1 rL=>?_⟩;have s1:=aB (o:=.lst [.ref a]) rL;refine⟨l1,p,ns,[.ref a],[rs],rs.length,Z,au,s1 _ _ hp,.cons ⟨a,r,Z,s1 _ _ hm.1,s1 _ _ hm.2.1⟩ .nil,HE rfl,HE rfl,mn,fun x hx=>by rw[ar.mp hx],fun q H1 s2 _ hq=>?_⟩;have j_:=s1.trans s2;rw[xP]at hq;have Va:=u5 rs;refine⟨q,Z,⟨_,SqL.of hq⟩,?_⟩;refine fU (K:=K) (a:=q) (xs:=((fP rs).map fun i:Nat=>(i:Int)).map V.int) (fun i ys H'=>aT H1 H'/\ys=(((fP rs).take i).map (fj ns.length)).map V.str) ⟨aT.refl _,rfl⟩ (lk (by rw[dS,dS];exact oo)) (fun i ys H' ⟨_,e⟩=>by rw[e,dS,dS,bE];exact oo) (fun i ys H' ⟨s',_⟩=>SqL.of (s' _ _ hq)) ?_ ?_
 ·rintro i y ys H2 hi ⟨s3,rfl⟩
  rw[kT,kT]at hi
  obtain⟨c,hc,rfl⟩:∃ c:Nat,(fP rs)[i]?=some c/\y=V.int (c:Int):=by
   cases q:(fP rs)[i]? with
   |none=>rw[q]at hi;cases hi
   |some c=>rw[q]at hi;exact⟨c,Z,(iE hi).symm⟩
  have iP:=j_.trans s3;refine⟨⟨Z,trivial⟩,_,Z,a,_,0,.ref p,Z,Z,SqT.of (iP _ _ hm.1),Z,_,Z,p,ns,c,Z,iP _ _ hp,h8,fun H3 s4=>⟨s3.trans s4,?_⟩⟩;rw[pj,hc,ax,ax]
  rfl
 rintro ys H2 ⟨s3,rfl⟩ l2 ko;rw[dS,dS,bS];refine⟨_,l2,_,Z,Z,SqL.of au,fA (qD h8 mn) odz,k _ ((j_.trans s3).trans (aB ko))⟩
def jd(ns:List Str)(rs:List Int)(t1 t2:Tr):Nat:=(fB rs (aC ns t1)&&&aC ns t2).log2
def nR(ns:List Str)(rs:List Int)(t1 t2:Tr):Str:=if gh (aN (sel rs (aC ns t2)))=true then(if cF ns t1 rs t2=true then "goes "++fj ns.length (jd ns rs t1 t2)else "stays")else "not held"
def Cj:gR:=fun ns rs ts txt=>∃(t1 t2:Tr)(x:Int),ts=[t1,t2]/\aN (sel rs (aC ns t1))=some x/\txt=nR ns rs t1 t2
theorem Ja{x:Int}(hM:eC ns rs)(hx:aN (sel rs (aC ns t1))=some x)(h:cF ns t1 rs t2=true):∃ y,lj ns t1 rs x y:=by
 by_cases h0:aP ns t1=0
 ·have hn:aN (sel rs (aP ns t1))=none:=by
   cases hq:aN (sel rs (aP ns t1))with
   |none=>rfl
   | some y =>
    obtain⟨i,_,hb,_⟩:=eL.mp (bf hq).1;rw[h0,fh]at hb;cases hb
  have e:dh ns t1 rs=rs:=by
   unfold dh;rw[hx,hn]
  unfold cF at h;rw[e]at h;cases hz:gh (aN (sel rs (aC ns t2)))<;>rw[hz]at h<;>cases h
 obtain⟨y,hy⟩:=nP hM h0;exact⟨y,hM.len,hx,hy⟩
theorem Af{x:Int}(hM:eC ns rs)(hx:aN (sel rs (aC ns t1))=some x)(h:cF ns t1 rs t2=true): ((Builtin.Int.intBits ((fB rs (aC ns t1)&&&aC ns t2:Nat):Int):Nat):Int)-1=((jd ns rs t1 t2:Nat):Int)/\jd ns rs t1 t2<2^ns.length/\rs.getD (jd ns rs t1 t2) 0=x/\(aP ns t1|||aP ns t2).testBit (jd ns rs t1 t2)=false:=by
 obtain⟨y,h2⟩:=Ja hM hx h;obtain⟨j,e,hj,hr,hb⟩:=Ci h2 hM h
 have g7:fB rs (aC ns t1)&&&aC ns t2≠0:=by
  intro z;rw[z]at e;have:((Builtin.Int.intBits ((0:Nat):Int):Nat):Int)-1 = -1:=by decide
  exact oo
 have hw:=(xO g7).1
 have ej:jd ns rs t1 t2=j:=by
  unfold jd;exact oo
 rw[ej];exact⟨e,hj,hr,hb⟩
theorem FQ:b_ ["mind","trees","pairs"] ["mind","trees"] (aV Ue):=eo
theorem Ck(T:Txt P w K mg t):FM P w base T.q84 123 (y_ Cj):=by
 refine T.q84.F.eK (k:=122) FQ ?_;rintro nd _ _ _ _ H vs Q E hr ⟨a,p,r,l,rs,us,ns,ts,txt,rfl,hm,hM,hp,h8,ic,hl,hP,hok,⟨t1,t2,x,rfl,hx,rfl⟩,k⟩
 obtain⟨v1,v2,rfl,hv1,Vg⟩:∃ v1 v2,us=[v1,v2]/\c8 H v1 t1/\c8 H v2 t2:=by
  cases hP with
  | cons a b =>
   cases b with
   | cons c d =>
    cases d;exact⟨_,_,Z,a,c⟩
 obtain⟨o1,n1⟩:=hok t1 qms;obtain⟨o2,n2⟩:=hok t2 (k8 _ qms)
 refine⟨_,(ao (eT 2 nd (dn T.q32 (Lb T) hr bx (aa (af 0) (aa (cy bB (af 1) ak) (aa (bz (aa (cy bB (af 1) ak) aj)) aj)))))
   (ao (aR (cP (bV (dn T.q20 (p7 T) hr bx (aa (af 0) (aa (cy bB (af 1) ak) aj)))))
    (aq (aA az))
    aO)
   (ao (aR (aF aU (aZ aW T.zd Bt.len (aa (af 2) aj)) ak (aH _))
    (aq (aA az))
    aO)
   (aq (aA (aD bh az (dn T.q82 (xH T) hr aM (aa (cy aJ (af 0) ak) (aa (cy aJ (cy bB (af 2) ak) ak) aj))))))))),?_⟩
 refine⟨_,Z,_,Z,l,_,0,v1,Z,Z,SqL.of hl,bR (j:=0) rfl,_,Z,l,_,1,v2,Z,Z,SqL.of hl,bR (j:=1) rfl,lk obz,fun lo K0=>?_⟩;have s1:=aB (o:=.lst [v2]) K0;refine⟨a,p,r,lo,rs,v1,ns,t1,[v2],[t2],Z,hm.same s1,hM,s1 _ _ hp,h8,ic,hv1.mono s1.b9,o1,au,HE rfl,.cons (Vg.mono s1.b9) .nil,fun u hu=>by rw[ar.mp hu];exact o2,fun _=>?_,fun z=>absurd ⟨n1,fun u hu=>by rw[ar.mp hu];exact n2⟩ z⟩;rw[hx];intro lp ps H1 s2 _ hlp hPp;have j_:=s1.trans s2
 have el:jU (cF ns t1 rs) [t2] [t2].length=if cF ns t1 rs t2=true then [(0,t2)]else []:=by
  have:=sY (cF ns t1 rs) [t2] 0;exact this
 rw[el]at hPp;unfold nR at k;refine⟨_,Z,_,Z,l,_,1,v2,Z,Z,SqL.of (j_ _ _ hl),bR (j:=1) rfl,a,p,r,rs,v2,ns,t2,Z,hm.same j_,o2.fits (j_ _ _ hp) h8 ic (Vg.mono j_.b9),fun _ H2 s3=>⟨_,Z,?_⟩,fun z=>absurd n2 z⟩;have iP:=j_.trans s3;cases hh:gh (aN (sel rs (aC ns t2)))with
 | false =>
  rw[hh,bq gc]at k;exact bQ (k H2 iP)
 | true =>
  rw[hh,b6 rfl]at k;refine bu ?_;cases hz:cF ns t1 rs t2 with
  | false =>
   rw[hz,bq gc]at k hPp;have:ps=[]:=by cases hPp;rfl
   subst this;refine⟨_,Z,lp,_,Z,.inl (SqL.of (s3 _ _ hlp)),Z,_,Z,aQ (fun _=>k H2 iP) (fun z=>absurd (cS rfl) z)⟩
  | true =>
   rw[hz,b6 rfl]at k hPp
   obtain⟨u,rfl,qu,rfl,Vl⟩:∃ u,ps=[u]/\∃ q,u=.ref q/\H1 q=some (.tup [.int (0:Nat),.int (Builtin.Int.intBits ((fB rs (aC ns t1)&&&aC ns t2:Nat):Int)-1)]):=by
    obtain⟨u,e,q,h1,h2⟩:=iY hPp;exact⟨u,e,q,h1,h2⟩
   obtain⟨ge,_⟩:=Af hM hx hz;rw[ge]at Vl;have nc:=hm.same iP;refine⟨_,Z,lp,_,Z,.inl (SqL.of (s3 _ _ hlp)),Z,_,Z,aQ (fun z=>absurd (V.int.inj (en z)) (by show ¬((1:Nat):Int)=0;decide)) (fun _=>?_)⟩;refine⟨_,Z,a,_,0,.ref p,Z,Z,SqT.of nc.1,Z,_,Z,lp,_,0,.ref qu,Z,Z,SqL.of (s3 _ _ hlp),bR (j:=0) rfl,qu,_,1,_,Z,Z,SqT.of (s3 _ _ Vl),Z,p,ns,jd ns rs t1 t2,Z,iP _ _ hp,h8,fun H3 s4=>?_⟩;have e5:("goes ":Str).length=5:=by decide +kernel
   have hwl:=pP ns.length (jd ns rs t1 t2);have sz:1000<=sizeLine:=by decide
   exact⟨_,_,Z,Z,oo,k H3 (iP.trans s4)⟩
inductive Rh(vs:List V)(H:Hp)(Q:VK)(E:XK):Prop
 |mk(p:Addr)(ns:List Str)(wd:Nat)(_:vs=[.ref p,.int (wd:Int)])(_:H p=some (.tup (ns.map V.str)))(_:ns.length<=8)(_:∀ H',aT H H'->Q (.str (fj ns.length wd)) H')
inductive LS(vs:List V)(H:Hp)(Q:VK)(E:XK):Prop
 |mk(a p r:Addr)(ns:List Str)(rs:List Int)(_:vs=[.ref a])(_:cb H a p r rs)(_:H p=some (.tup (ns.map V.str)))(_:ns.length<=8)(_:∀ H',aT H H'->Q (.str (jZ ns.length rs)) H')
inductive GV(vs:List V)(H:Hp)(Q:VK)(E:XK):Prop
 |mk(a p r:Addr)(v:V)(ns:List Str)(rs:List Int)(tr:Tr)(_:vs=[.ref a,v,.str (pK rs ns tr)])(_:cb H a p r rs)(_:eC ns rs)(_:H p=some (.tup (ns.map V.str)))(_:ns.length<=8)(_:c8 H v tr)(_:tr.depth<=5)(_:(∀ x∈tr.names,x∈ns))(_:(∀ m y,aN (sel rs (aC ns tr))=some m->aN (sel rs (aP ns tr))=some y->(m-y).natAbs.log2<1920))(_:∀ H',aT H H'->Q (.bl true) H')
inductive C0(vs:List V)(H:Hp)(Q:VK)(E:XK):Prop
 |mk(a p r:Addr)(v1 v2:V)(ns:List Str)(rs:List Int)(t1 t2:Tr)(x:Int)(_:vs=[.ref a,v1,v2,.str (nR ns rs t1 t2)])(_:cb H a p r rs)(_:eC ns rs)(_:H p=some (.tup (ns.map V.str)))(_:ns.length<=8)(_:c8 H v1 t1)(_:c8 H v2 t2)(_:t1.depth<=5)(_:t2.depth<=5)(_:(∀ x∈t1.names,x∈ns))(_:(∀ x∈t2.names,x∈ns))(_:aN (sel rs (aC ns t1))=some x)(_:∀ H',aT H H'->Q (.bl true) H')
theorem iK(x:Str){y:Str}(h:x=y):decide (V.str x=V.str y)=true:=cS (by rw[h])
def goB(ns:List Str)(rs:List Int)(t1 t2:Tr)(x:Int)(j:Nat):Bool:=decide (rs.getD j 0=x)&&(!(aP ns t1).testBit j && !(aP ns t2).testBit j)
def xc(ns:List Str)(rs:List Int)(t1 t2:Tr)(x:Int)(m:Nat):List Str:=((List.range m).filter (goB ns rs t1 t2 x)).map fun j => "goes "++fj ns.length j
theorem Jb(ns:List Str)(rs:List Int)(t1 t2:Tr)(x:Int)(m:Nat):xc ns rs t1 t2 x (m+1)=xc ns rs t1 t2 x m++if goB ns rs t1 t2 x m=true then ["goes "++fj ns.length m]else []:=by
 unfold xc;rw[c9,cE,ax];cases h:goB ns rs t1 t2 x m with
 |true=>rw[da h,ib];rfl
 |false=>rw[de (by rw[h];decide),ib];rfl
theorem Ld(ns:List Str)(rs:List Int)(t1 t2:Tr)(x:Int)(m:Nat):(xc ns rs t1 t2 x m).length <= m:=by
 unfold xc;rw[dS];refine fA (cn _ _) ?_;rw[b5];exact qnr _
theorem Jc{x:Int}(hM:eC ns rs)(hx:aN (sel rs (aC ns t1))=some x)(hh:gh (aN (sel rs (aC ns t2)))=true)(hl:cF ns t1 rs t2=false):xc ns rs t1 t2 x rs.length=[]:=by
 unfold xc;rw[List.filter_eq_nil_iff.mpr]
 ·rfl
 intro j hj hg;have hj:=eI.mp hj;have VA:j<2^ns.length:=by rw[<- hM.len];exact hj
 unfold goB at hg;obtain⟨g1,g2⟩:=aE.mp hg;obtain⟨g2,g3⟩:=aE.mp g2;have g1:=en g1;rw[bO,cS VA,hW]at g2 g3;have g2:bw (inW ns j) t1=false:=by simpa using g2
 have g3:bw (inW ns j) t2=false:=by simpa using g3
 unfold cF at hl;rw[hh,hW]at hl;have hv:gh (aN (sel (dh ns t1 rs) (aC ns t2)))=true:=by simpa using hl
 have:=((uM hx hM).mp ((rA (hM.AU t1) t2).mp hv)).2 j VA g2 g1;rw[g3]at this;cases this
theorem xQ{x:Int}(hM:eC ns rs)(hx:aN (sel rs (aC ns t1))=some x)(hl:cF ns t1 rs t2=true):("goes "++fj ns.length (jd ns rs t1 t2):Str)∈xc ns rs t1 t2 x rs.length:=by
 obtain⟨_,hj,hr,hb⟩:=Af hM hx hl;unfold xc;refine ck.mpr ⟨jd ns rs t1 t2,ia.mpr ⟨eI.mpr (by rw[hM.len];exact hj),?_⟩,rfl⟩;rw[fN]at hb;unfold goB;rw[cS hr,(Bool.or_eq_false_iff.mp hb).1,(Bool.or_eq_false_iff.mp hb).2]
 rfl
theorem Le{a:Str}{l:List Str}(h:a∈l):vj (.str a) (l.map V.str)=true:=by
 unfold vj;rw[m4];refine⟨.str a,ck.mpr ⟨a,h,Z⟩,?_⟩;show(a==a)=true;exact mP a
theorem Lf(l:List Int)(i:Int):vj (.int i) (l.map V.int)=decide (i∈l):=by
 rw[kf,sh];unfold vj;rw[m4]
 constructor
 ·rintro⟨v,hv,he⟩
  obtain⟨j,hj,rfl⟩:=ck.mp hv;have he:(j==i)=true\/(i==j)=true:=by first|exact .inl he|exact .inr he
  rcases he with he|he
  ·rw[<- eq_of_beq he];exact hj
  rw[eq_of_beq he];exact hj
 intro h;exact⟨.int i,ck.mpr ⟨i,h,Z⟩,mP i⟩
theorem Cm(l:List Int):(l.map V.int).all eZ=true:=by
 rw[cm];intro v hv;obtain⟨n,_,rfl⟩:=ck.mp hv
 rfl
theorem FT(hM:eC ns rs)(t2:Tr):decide ((0:Int)∈sel rs (aC ns t2)) = !gh (aN (sel rs (aC ns t2))):=by
 cases h:aN (sel rs (aC ns t2))with
 | none =>
  have:sel rs (aC ns t2)=[]:=gf h;rw[this]
  rfl
 | some m =>
  have h0:=hM.AB t2 h;show _ = !decide (0<m)
  by_cases c:m=0
  ·have:(0:Int)∈sel rs (aC ns t2):=by
    have:=(bf h).1;rw[c]at this;exact this
   rw[cS this,c]
   rfl
  have:¬(0:Int)∈sel rs (aC ns t2):=fun z=>by
   have:=(bf h).2 0 z;exact oo
  rw[gp this,cS (show 0<m by omega)]
  rfl
theorem JN(T:Txt P w K mg t):FM P w base T.q110 1 Rh:=by
 refine T.q110.F.eK (N:=["_law_names","_law_world"]) eo ?_;rintro nd _ _ _ _ _ _ _ _ hr ⟨p,ns,wd,rfl,hp,h8,k⟩;refine⟨_,(aq (aA (bY PySem.F.plainAttrs_str PySem.F.slot_str_join PySem.F.type_str_join jW az (aa (bW rfl ["_law_k","_law_world"] [none,some 1] (gw T.zp (aa (aZ aW T.zd Bt.len (aa (af 0) aj)) aj)) kr (fun _ _ _ _ _ _=>(g6 0 (kF (l:=["_law_k","_law_world"])))) (fun _ _ _ _ _ _=>cM) (fun _ _ _ _ _ _=>(dj gF T.zt Bt.str (aa (aD eY (aD my (g5 1) (af 0)) ak) aj)))) aj)))),?_⟩;have el:(ns.map V.str).length=ns.length:=dS _;refine⟨Z,_,Z,p,_,Z,.inr (SqT.of hp),_,Z,oo,by rw[el];exact oo,?_⟩;rw[bo,el];refine cZ (lo:=0) (n:=ns.length) (fun i=>V.str (toString ((dm wd i:Nat):Int):String)) (fA h8 odz) (fun i R hi hR=>?_) fun l hl=>?_
 ·refine⟨⟨Z,trivial⟩,_,Z,_,Z,_,_,Z,Z,(by show(0:Int)<=0+(i:Int);exact oo),_,_,Z,Z,?_⟩
  try dsimp -proj -iota only
  rw[fz,tW];exact⟨_,Z,(jJ wd i).2,hR⟩
 have em:((List.range ns.length).map fun i=>V.str (toString ((dm wd i:Nat):Int):String))=(((List.range ns.length).map fun(i:Nat)=>((toString ((dm wd i:Nat):Int):String):Str)).map V.str):=by
  rw[eD]
  rfl
 rw[em];refine⟨_,l,_,Z,Z,SqL.of au,?_,k _ (aB hl)⟩;have e0:("":Str).length=0:=rfl;rw[e0,Nat.mul_zero,ub];refine fA (rB (m:=1) fun y hy=>?_) ?_
 ·obtain⟨i,_,rfl⟩:=ck.mp hy
  exact ua (jJ wd i).1
 rw[dS,b5];exact oo
theorem NQ(T:Txt P w K mg t):FM P w base T.q111 2 LS:=by
 refine T.q111.F.eK (N:=["_law_mind"]) eo ?_;rintro nd _ _ _ _ H _ _ _ hr ⟨a,p,r,ns,rs,rfl,hm,hp,h8,k⟩;refine⟨_,(aq (aA (bY PySem.F.plainAttrs_str PySem.F.slot_str_join PySem.F.type_str_join jW az (aa (bW rfl ["_law_world","_law_rank","_law_mind"] [none,none,some 0] (jC (cy aJ (g5 0) ak) T.zm) kr (fun _ _ _ _ _ _=>(jg (K:=K) (n:=2) rfl rfl (bG (g6 0 (kF (l:=["_law_world","_law_rank","_law_mind"]))) (bG (g6 1 (kF (l:=["_law_world","_law_rank","_law_mind"]))) eO)))) (fun _ _ _ _ _ _=>gr (aF aU (af 1) ak (aH _))) (fun _ _ _ _ _ _=>(dn T.q110 (JN T) hr aM (aa (cy (jX (K:=K)) (g5 2) ak) (aa (af 0) aj))))) aj)))),?_⟩;refine⟨Z,_,Z,a,_,1,.ref r,Z,Z,SqT.of hm.1,Z,r,Z,⟨_,SqT.of hm.2.1⟩,?_⟩
 refine gO (K:=K) (a:=r) (xs:=rs.map V.int) (fun i ys H'=>aT H H'/\ys=(((List.range i).filter fun j=>decide (rs.getD j 0=0)).map (fj ns.length)).map V.str) ⟨aT.refl _,rfl⟩ (lk (by rw[dS];have:=hm.2.2;exact oo)) (fun i ys H' ⟨_,e⟩=>by
  rw[e,dS,dS];refine fA (cn _ _) ?_
  rw[b5];exact qnr _) (fun i ys H' ⟨s1,_⟩=>SqT.of (s1 _ _ hm.2.1)) ?_ ?_
 ·rintro i y ys H1 hi ⟨s1,rfl⟩ e he
  rw[kT]at hi
  obtain⟨x,hx,rfl⟩:∃ x,rs[i]?=some x/\y=V.int x:=by
   cases q:rs[i]? with
   |none=>rw[q]at hi;cases hi
   |some x=>rw[q]at hi;exact⟨x,Z,(iE hi).symm⟩
  have ex:rs.getD i 0=x:=by rw[List.getD,hx];rfl
  have s2:=s1.trans (aB (o:=.tup [.int i,.int x]) he)
  have es:((List.range (i+1)).filter fun j=>decide (rs.getD j 0=0))=((List.range i).filter fun j=>decide (rs.getD j 0=0))++if x=0 then [i]else []:=by
   rw[c9,cE,m3,ex]
   by_cases h:x=0
   ·rw[cS h,b6 rfl,b6 h];rfl
   rw[gp h,bq gc,bq h];rfl
  refine⟨e,_,Z,SqT.of au,Z,_,_,Z,_,_,Z,Z,⟨Z,trivial⟩,?_⟩;refine⟨_,Z,Z,_,Z,aQ (fun z=>?_) (fun z=>?_)⟩
  ·have z:x=0:=V.int.inj (en z)
   rw[es,b6 z,ax,ax];exact⟨_,Z,a,_,0,.ref p,Z,Z,SqT.of (s2 _ _ hm.1),Z,_,Z,p,ns,i,Z,s2 _ _ hp,h8,fun H3 s3=>⟨s2.trans s3,Z⟩⟩
  have z:¬x=0:=fun e=>z (cS (by rw[e]))
  rw[es,bq z,bX];exact⟨s2,Z⟩
 rintro ys H1 ⟨s1,rfl⟩ l hl;rw[dS];exact⟨_,l,_,Z,Z,SqL.of au,fA (qD h8 hm.2.2) odz,k _ (s1.trans (aB hl))⟩
theorem NT:b_ ["_law_mind","_law_tree","_law_answer","_law_sides_here","_law_lean"] ["_law_mind","_law_tree","_law_answer"] (aV Hh):=eo
theorem Lg(T:Txt P w K mg t):FM P w base T.q112 8 GV:=by
 refine T.q112.F.eK (k:=7) NT ?_;rintro nd _ _ _ _ _ _ _ _ hr ⟨a,p,r,v,ns,rs,tr,rfl,hm,hM,hp,h8,ht,hd,hn,sT,k⟩;have hu:=fX hr
 refine⟨_,(ao (eT 3 nd (dn T.q99 (pO T) hr aM (aa (cy aJ (af 0) ak) (aa (dn T.q97 (iI T 5) hr aM (aa (cy aJ (af 0) ak) (aa (af 1) aj))) aj))))
   (ao (aR (aF (km (eJ hu)) (cy aJ (af 3) ak) (bz aj) (aH _))
    (aq (aA (b8 aU (af 2) az (aH _))))
    aO)
   (ao (aR (aF (km (eJ hu)) (cy aJ (af 3) ak) (bz aj) (aH _))
    (aq (aA (b8 aU (af 2) az (aH _))))
    aO)
   (ao (eT 4 nd (aD cW (aZ (oK rfl) T.zA Bt.min (aa (cy aJ (af 3) ak) aj)) (aZ (oK rfl) T.zA Bt.min (aa (cy aJ (af 3) ak) aj))))
   (ao (aR (aF mW (af 4) ak (aH _))
    (aq (aA (b8 aU (af 2) (aD bh az (dj gF T.zt Bt.str (aa (af 4) aj))) (aH _))))
    aO)
   (ao (aR (aF mV (af 4) ak (aH _))
    (aq (aA (b8 aU (af 2) (aD bh az (dj gF T.zt Bt.str (aa (mR j9 (af 4)) aj))) (aH _))))
    aO)
   (aq (aA (b8 aU (af 2) az (aH _)))))))))),?_⟩
 refine⟨_,Z,a,_,1,.ref r,Z,Z,SqT.of hm.1,Z,_,Z,a,_,0,.ref p,Z,Z,SqT.of hm.1,Z,_,Z,p,v,ns,tr,Z,hp,h8,ht,hd,hn,fun H1 s1=>⟨r,rs,aP ns tr,Z,s1 _ _ hm.2.1,hm.2.2,fun q l1 l2 H2 s2 hq rL ko=>?_⟩⟩;rw[nO hM.len]at ko;have j_:=s1.trans s2;generalize hT:pK rs ns tr=txt;unfold pK at hT;refine⟨_,Z,q,_,1,.ref l2,Z,Z,SqT.of hq,Z,lk obz,fun le hle=>?_⟩;have s3:=aB (o:=.lst []) hle;refine⟨l2,le,_,Z,Z,SqL.of (s3 _ _ ko),SqL.of au,_,Z,aQ (fun z=>?_) (fun z=>?_)⟩
 ·have hz:sel rs (aC ns tr)=[]:=pS.mp (xt.mp z)
  have hn:aN (sel rs (aC ns tr))=none:=by rw[hz];rfl
  rw[hn]at hT;refine⟨_,Z,Z,?_⟩
  try dsimp -proj -iota only
  rw[iK txt hT.symm];exact k _ (j_.trans s3)
 obtain⟨m,M1⟩:∃ m,aN (sel rs (aC ns tr))=some m:=by
  cases e:aN (sel rs (aC ns tr))with
  |some m=>exact⟨m,Z⟩
  | none =>
   have:sel rs (aC ns tr)=[]:=gf e;exact absurd (by show(List.map V.int (sel rs (aC ns tr))).isEmpty=true;rw[this];rfl) z
 generalize upd H2 le (.lst [])=H3 at s3 ⊢;have iP:=j_.trans s3;refine⟨_,Z,q,_,0,.ref l1,Z,Z,SqT.of (s3 _ _ hq),Z,lk obz,fun U_ Sj=>?_⟩;have s4:=aB (o:=.lst []) Sj;have rd:=s3.trans s4;refine⟨l1,U_,_,Z,Z,SqL.of (rd _ _ rL),SqL.of au,_,Z,aQ (fun z2=>?_) (fun z2=>?_)⟩
 ·have hz:sel rs (aP ns tr)=[]:=pS.mp (xt.mp z2)
  have hn:aN (sel rs (aP ns tr))=none:=by rw[hz];rfl
  rw[M1,hn]at hT;refine⟨_,Z,Z,?_⟩
  try dsimp -proj -iota only
  rw[iK txt hT.symm];exact k _ (iP.trans s4)
 obtain⟨y,hy⟩:∃ m,aN (sel rs (aP ns tr))=some m:=by
  cases e:aN (sel rs (aP ns tr))with
  |some m=>exact⟨m,Z⟩
  | none =>
   have:sel rs (aP ns tr)=[]:=gf e;exact absurd (by show(List.map V.int (sel rs (aP ns tr))).isEmpty=true;rw[this];rfl) z2
 generalize upd H3 U_ (.lst [])=H4 at s4 rd ⊢;have BD:=iP.trans s4;have p1:0<(sel rs (aC ns tr)).length:=fT (bf M1).1;have p2:0<(sel rs (aP ns tr)).length:=fT (bf hy).1;refine⟨_,Z,q,_,1,.ref l2,Z,Z,SqT.of (rd _ _ hq),Z,l2,_,Z,SqL.of (rd _ _ ko),p1,fun M a1 a2=>?_⟩;obtain rfl:m=M:=iE (M1.symm.trans (jl a1 a2));refine⟨_,Z,q,_,0,.ref l1,Z,Z,SqT.of (rd _ _ hq),Z,l1,_,Z,SqL.of (rd _ _ rL),p2,fun M b1 b2=>?_⟩;obtain rfl:y=M:=iE (hy.symm.trans (jl b1 b2));rw[M1,hy]at hT;have hT:sO (m-y)=txt:=hT;have AN:=sT m y M1 hy;refine⟨_,_,Z,Z,?_⟩
 try dsimp -proj -iota only
 generalize m-y=i at hT AN ⊢;unfold sO at hT;refine⟨_,Z,_,_,Z,Z,_,Z,aQ (fun g=>?_) (fun g=>?_)⟩
 ·have g:0<i:=en g
  rw[bq oo,b6 g]at hT;refine⟨_,Z,_,Z,i,Z,AN,_,_,Z,Z,?_,Z,?_⟩
  ·have:=fI AN
   have e5:("held ":Str).length=5:=by decide +kernel
   rw[e5];exact fA (e_ this 5) odz
  try dsimp -proj -iota only
  rw[iK txt hT.symm];exact k _ BD
 have g:¬0<i:=fun e=>g (cS e)
 refine⟨_,Z,_,_,Z,Z,_,Z,aQ (fun g2=>?_) (fun g2=>?_)⟩
 ·have g2:i<0:=en g2
  rw[bq oo,bq g]at hT;refine⟨_,Z,_,Z,_,Z,-i,Z,by rw[oI];exact AN,_,_,Z,Z,?_,Z,?_⟩
  ·have:=fI (i:=-i) (by rw[oI];exact AN)
   have e7:("denied ":Str).length=7:=by decide +kernel
   rw[e7];exact fA (e_ this 7) odz
  try dsimp -proj -iota only
  rw[iK txt hT.symm];exact k _ BD
 have g2:¬i<0:=fun e=>g2 (cS e)
 rw[b6 oo]at hT;refine⟨_,Z,Z,?_⟩
 try dsimp -proj -iota only
 rw[iK txt hT.symm];exact k _ BD
theorem Cp:b_ ["_law_mind","_law_tree","_law_other","_law_answer","_law_told","_law_beyond","_law_least","_law_some","_law_world","_law_rank"] ["_law_mind","_law_tree","_law_other","_law_answer"] (aV Hi):=eo
theorem Jd(T:Txt P w K mg t):FM P w base T.q113 8 C0:=by
 refine T.q113.F.eK (k:=7) Cp ?_;rintro nd _ _ _ _ H vs Q E hr ⟨a,p,r,v1,v2,ns,rs,t1,t2,x,rfl,hm,hM,hp,h8,P7,MB,NG,hd2,xD,rp,hx,k⟩;have hu:=fX hr
 refine ⟨_,(ao (eT 4 nd (dn T.q97 (iI T 5) hr aM (aa (cy aJ (af 0) ak) (aa (af 1) aj))))
   (ao (eT 5 nd (dn T.q97 (iI T 5) hr aM (aa (cy aJ (af 0) ak) (aa (af 2) aj))))
   (ao (aR (aF fQ ak (cy aJ (dn T.q99 (pO T) hr aM (aa (cy aJ (af 0) ak) (aa (af 5) aj))) ak) ou)
    (aq (aA (b8 aU (af 3) az (aH _))))
    aO)
   (ao (eT 6 nd (aZ (oK rfl) T.zA Bt.min (aa (cy aJ (dn T.q99 (pO T) hr aM (aa (cy aJ (af 0) ak) (aa (af 4) aj))) ak) aj)))
   (ao (eT 7 nd (bz aj))
   (ao (dX i7 rfl (jC (cy aJ (af 0) ak) T.zm) (mj (n:=2) rfl (bG (g6 8 nd) (bG (g6 9 nd) eO)))
    (aq (aR (PW.pt (eV (aF aU (af 9) (af 6) (aH _)) (eV (aF aU (aD eY (aD my (af 4) (af 8)) ak) ak (aH _)) (dU (aF aU (aD eY (aD my (af 5) (af 8)) ak) ak (aH _))))))
     (aq (bA (bY PySem.F.plainAttrs_list PySem.F.slot_list_append PySem.F.type_list_append cL (af 7) (aa (aD bh az (dn T.q110 (JN T) hr aM (aa (cy aJ (af 0) ak) (aa (af 8) aj)))) aj))))
     aO)))
   (ao (aR (aF (km (eJ hu)) (af 7) (bz aj) (aH _))
    (aq (aA (b8 aU (af 3) az (aH _))))
    aO)
   (aq (aA (b8 fQ (af 3) (af 7) ou)))))))))),?_⟩
 have mn:=hm.2.2;generalize hT:nR ns rs t1 t2=txt;refine⟨_,Z,a,_,0,.ref p,Z,Z,SqT.of hm.1,Z,_,Z,p,v1,ns,t1,Z,hp,h8,P7,NG,xD,fun H1 s1=>?_⟩;refine⟨_,Z,a,_,0,.ref p,Z,Z,SqT.of (s1 _ _ hm.1),Z,_,Z,p,v2,ns,t2,Z,s1 _ _ hp,h8,MB.mono s1.b9,hd2,rp,fun H2 s2=>?_⟩;have j_:=s1.trans s2;refine⟨_,Z,a,_,1,.ref r,Z,Z,SqT.of (j_ _ _ hm.1),Z,_,Z,r,rs,aP ns t2,Z,j_ _ _ hm.2.1,mn,fun q l1 l2 H3 s3 hq rL ko=>?_⟩;rw[nO hM.len]at ko;have iP:=j_.trans s3;refine⟨q,_,1,.ref l2,Z,Z,SqT.of hq,Z,l2,_,Z,.inl (SqL.of ko),Z,Cm _,?_⟩;rw[bq gc,Lf,FT hM];unfold nR at hT;refine⟨_,Z,aQ (fun z=>?_) (fun z=>?_)⟩
 ·have hh:¬gh (aN (sel rs (aC ns t2)))=true:=fun e=>by rw[e]at z;cases z
  rw[bq hh]at hT;refine⟨_,Z,Z,?_⟩
  try dsimp -proj -iota only
  rw[iK txt hT.symm];exact k _ iP
 have hh:gh (aN (sel rs (aC ns t2)))=true:=dP fun e=>z (by rw[iL.mpr e];rfl)
 rw[b6 hh]at hT;refine⟨_,Z,a,_,1,.ref r,Z,Z,SqT.of (iP _ _ hm.1),Z,_,Z,r,rs,aP ns t1,Z,iP _ _ hm.2.1,mn,fun q2 l3 l4 H4 s4 hq2 BQ QC=>?_⟩;rw[nO hM.len]at QC;have BD:=iP.trans s4;have p1:0<(sel rs (aC ns t1)).length:=fT (bf hx).1;refine⟨q2,_,1,.ref l4,Z,Z,SqT.of hq2,Z,l4,_,Z,SqL.of QC,p1,fun M a1 a2=>?_⟩;obtain rfl:x=M:=iE (hx.symm.trans (jl a1 a2));refine⟨lk obz,fun ls Qz=>?_⟩;have s5:=aB (o:=.lst []) Qz;have Rn:=BD.trans s5;have Sh:H ls=none:=BD.free Qz
 refine⟨_,rfl,a,_,1,.ref r,rfl,rfl,SqT.of (Rn _ _ hm.1),rfl,r,rfl,⟨_,SqT.of (Rn _ _ hm.2.1)⟩,uH (K:=K) (a:=r) (xs:=rs.map V.int)
  (fun i σ H'=>∃(o8 o9:Option V),σ=[some (.ref a),some v1,some v2,some (.str txt),some (.int (aP ns t1:Nat)),some (.int (aP ns t2:Nat)),some (.int x),some (.ref ls),o8,o9]/\aT H H'/\H' ls=some (.lst ((xc ns rs t1 t2 x i).map V.str)))
  ⟨none,none,rfl,Rn,au⟩ (fun i σ H' _ ⟨_,_,_,s',_⟩=>SqT.of (s' _ _ hm.2.1)) ?_ ?_⟩
 ·rintro i y σ H5 hi ⟨o8,o9,rfl,s6,M'⟩ d hd
  have Nd:i<rs.length:=by
   have:=(List.getElem?_eq_some_iff.mp hi).1;rw[dS]at this;exact this
  rw[kT]at hi
  obtain⟨c,hc,rfl⟩:∃ c,rs[i]?=some c/\y=V.int c:=by
   cases q:rs[i]? with
   |none=>rw[q]at hi;cases hi
   |some c=>rw[q]at hi;exact⟨c,Z,(iE hi).symm⟩
  have ec:rs.getD i 0=c:=by rw[List.getD,hc];rfl
  have UL:=aB (o:=.tup [.int i,.int c]) hd;refine⟨d,_,Z,SqT.of au,Z,_,_,Z,_,_,Z,Z,?_⟩;have K2:=UL _ _ M';have s7:=s6.trans UL;generalize upd H5 d (.tup [.int i,.int c])=H6 at s7 K2 ⊢;have es:=Jb ns rs t1 t2 x i
  have skip:goB ns rs t1 t2 x i=false->H6 ls=some (.lst ((xc ns rs t1 t2 x (i+1)).map V.str)):=fun e=>by
   rw[es,e,bq gc,bX];exact K2
  refine⟨_,Z,_,Z,Z,_,Z,aQ (fun g1=>?_) (fun g1=>bu ?_)⟩
  ·have g1:c=x:=V.int.inj (en g1)
   refine⟨_,Z,_,Z,_,_,Z,Z,ee i,_,_,Z,Z,?_⟩
   try dsimp -proj -iota only
   rw[tW];refine⟨Z,_,Z,aQ (fun g2=>?_) (fun g2=>bu ?_)⟩
   ·have g2:(aP ns t1).testBit i=false:=by
     have g2:((dm (aP ns t1) i:Nat):Int)=0:=V.int.inj (en g2);unfold dm at g2;cases hb:(aP ns t1).testBit i with
     |false=>rfl
     |true=>rw[hb,b6 rfl]at g2;exact absurd g2 odz
    refine⟨_,Z,_,Z,_,_,Z,Z,ee i,_,_,Z,Z,?_⟩
    try dsimp -proj -iota only
    rw[tW];refine⟨Z,_,Z,aQ (fun g3=>?_) (fun g3=>?_)⟩
    ·have g3:(aP ns t2).testBit i=false:=by
      have g3:((dm (aP ns t2) i:Nat):Int)=0:=V.int.inj (en g3);unfold dm at g3;cases hb:(aP ns t2).testBit i with
      |false=>rfl
      |true=>rw[hb,b6 rfl]at g3;exact absurd g3 odz
     have eg:goB ns rs t1 t2 x i=true:=by
      unfold goB;rw[ec,cS g1,g2,g3]
      rfl
     refine⟨_,Z,.inl ⟨Z,_,SqL.of K2⟩,_,Z,a,_,0,.ref p,Z,Z,SqT.of (s7 _ _ hm.1),Z,_,Z,p,ns,i,Z,s7 _ _ hp,h8,fun H7 s8=>?_⟩;have e5:("goes ":Str).length=5:=by decide +kernel
     have hwl:=pP ns.length i;have sz:1000<=sizeLine:=by decide
     have hl7:=s8 _ _ K2;have hgl:=Ld ns rs t1 t2 x i;refine⟨_,_,Z,Z,oo,ls,_,_,Z,Z,hl7,dR (by rw[dS];exact oo),?_⟩;refine⟨_,_,Z,fun b o e=>?_,?_⟩
     ·rw[aG (aK e Sh)]
      exact s8 _ _ (s7 _ _ e)
     rw[au,es,eg,b6 rfl,ax]
     rfl
    refine⟨_,_,Z,s7,skip ?_⟩
    have g3:(aP ns t2).testBit i=true:=by
     cases hb:(aP ns t2).testBit i with
     |true=>rfl
     | false =>
      refine absurd (cS ?_) g3;unfold dm;rw[hb,bq gc]
      rfl
    unfold goB;rw[g3];simp
   refine⟨_,_,Z,s7,skip ?_⟩
   have g2:(aP ns t1).testBit i=true:=by
    cases hb:(aP ns t1).testBit i with
    |true=>rfl
    | false =>
     refine absurd (cS ?_) g2;unfold dm;rw[hb,bq gc]
     rfl
   unfold goB;rw[g2];simp
  refine⟨_,_,Z,s7,skip ?_⟩;have g1:¬c=x:=fun e=>g1 (cS (by rw[e]))
  unfold goB;rw[ec,gp g1]
  rfl
 rintro σ H5 ⟨o8,o9,rfl,s6,M'⟩;rw[dS]at M';refine⟨_,Z,lk obz,fun le hle=>?_⟩;have s7:=aB (o:=.lst []) hle;refine⟨ls,le,_,Z,Z,SqL.of (s7 _ _ M'),SqL.of au,_,Z,aQ (fun z2=>?_) (fun z2=>?_)⟩
 ·have hz:xc ns rs t1 t2 x rs.length=[]:=pS.mp (xt.mp z2)
  have hl:¬cF ns t1 rs t2=true:=fun e=>by
   have:=xQ hM hx e;rw[hz]at this;cases this
  rw[bq hl]at hT;refine⟨_,Z,Z,?_⟩
  try dsimp -proj -iota only
  rw[iK txt hT.symm];exact k _ (s6.trans s7)
 have hl:cF ns t1 rs t2=true:=by
  cases e:cF ns t1 rs t2 with
  |true=>rfl
  | false =>
   refine absurd ?_ z2;show((xc ns rs t1 t2 x rs.length).map V.str).isEmpty=true;rw[Jc hM hx hh e]
   rfl
 rw[b6 hl]at hT;refine⟨_,Z,_,Z,ls,_,Z,.inl (SqL.of (s7 _ _ M')),Z,sI _,?_⟩;rw[bq gc,<- hT,Le (xQ hM hx hl)];exact k _ (s6.trans s7)
def Cq(ns:List Str)(tr:Tr)(kd:Str):Prop:=(kd="take"/\aP ns tr≠0)\/(kd="give"/\aP ns tr≠cu ns.length)\/(kd="lean"/\aP ns tr≠0/\aP ns tr≠cu ns.length)\/(kd="lost"/\aP ns tr≠cu ns.length)\/kd="worlds"\/kd="ask"
def EH(kd:Str)(num:Int):Prop:=(kd="lean"/\-(10^30)<num/\num<10^30)\/(¬kd="lean"/\0<num/\num<10^30)
structure xk(ns:List Str)(tr:Tr):Prop where
 dp:tr.depth<=4
 sz:tr.size<=100
 nm:∀ x∈tr.names,x∈ns
inductive F7(vs:List V)(H:Hp)(Q:VK)(E:XK):Prop
 |mk(np cl:Addr)(ns:List Str)(c k:Int)(_:vs=[.ref np,.int c,.int k,.ref cl])(_:H np=some (.tup (ns.map V.str)))(_:1<=ns.length)(_:ns.length<=8)(_:0<=k)(_:k<1000)(_:∀(q:Addr)(vt vo:V)(tr ot:Tr)(kd:Str)(num i:Int)(H':Hp),aT H H'->H' q=some (.tup [.str kd,.int num,vt,vo,.int i])->c8 H' vt tr->c8 H' vo ot->xk ns tr->xk ns ot->Cq ns tr kd->EH kd num->0<=i->Q (.ref q) H')
theorem at8{m:Int}(h0:0<=m)(h8:m<8):∃ kd:Str,qo [V.str "take",V.str "lean",V.str "ask",V.str "lost",V.str "worlds",V.str "give",V.str "ask",V.str "lost"] m=some (.str kd)/\(kd="take"\/kd="give"\/kd="lean"\/kd="lost"\/kd="worlds"\/kd="ask"):=by
 obtain⟨n,rfl⟩:∃ n:Nat,m=(n:Int):=⟨m.toNat,oo⟩
 match n,(by omega:n<8)with
 | 0,_=>exact⟨_,Z,.inl rfl⟩
 | 1,_=>exact⟨_,Z,.inr (.inr (.inl rfl))⟩
 | 2,_=>exact⟨_,Z,.inr (.inr (.inr (.inr (.inr rfl))))⟩
 | 3,_=>exact⟨_,Z,.inr (.inr (.inr (.inl rfl)))⟩
 | 4,_=>exact⟨_,Z,.inr (.inr (.inr (.inr (.inl rfl))))⟩
 | 5,_=>exact⟨_,Z,.inr (.inl rfl)⟩
 | 6,_=>exact⟨_,Z,.inr (.inr (.inr (.inr (.inr rfl))))⟩
 | 7,_=>exact⟨_,Z,.inr (.inr (.inr (.inl rfl)))⟩
theorem NZ:b_ ["_law_names","_law_cell","_law_k","_law_counts","_law_m","_law_verb","_law_tree","_law_other","_law_told","_law_always","_law_number"] ["_law_names","_law_cell","_law_k","_law_counts"] (aV Hc):=eo
theorem Lh(T:Txt P w K mg t):FM P w base T.q101 7 F7:=by
 have UA:=Hs (base:=base) T;refine T.q101.F.eK (k:=6) NZ ?_;rintro nd _ _ _ _ H _ _ _ hr ⟨np,cl,ns,c,kk,rfl,kG,h1,h8,So,hk1,k⟩;have hu:=fX hr
 refine⟨_,(ao (eT 4 nd (dn T.q93 UA hr aM (aa (af 1) (aa (af 2) aj))))
   (ao (eT 5 nd (cy bB (bz (aa az (aa az (aa az (aa az (aa az (aa az (aa az (aa az aj))))))))) (aD bZ (af 4) ak)))
   (ao (eT 6 nd (dn T.q95 (vJ T 4) hr aM (aa (af 0) (aa (dn T.q93 UA hr aM (aa (af 1) (aa (aD cQ (af 2) ak) aj))) (aa ak aj)))))
   (ao (eT 7 nd (dn T.q95 (vJ T 4) hr aM (aa (af 0) (aa (dn T.q93 UA hr aM (aa (af 1) (aa (aD cQ (af 2) ak) aj))) (aa ak aj)))))
   (ao (eT 8 nd (dn T.q97 (iI T 4) hr aM (aa (af 0) (aa (af 6) aj))))
   (ao (eT 9 nd (b8 aU (af 8) (aD cW (aD gm ak (aD gm ak (aZ aW T.zd Bt.len (aa (af 0) aj)))) ak) (aH _)))
   (ao (aR (PW.pt (eX (PW.pt (eV (aF aU (af 5) az (aH _)) (dU (aF aU (af 8) ak (aH _))))) (eX (PW.pt (eV (aF fQ (af 5) (bj (aa az (aa az aj))) ou) (dU (bV (af 9))))) (gk (PW.pt (eV (aF aU (af 5) az (aH _)) (dU (PW.pt (eX (bV (af 9)) (gk (aF aU (af 8) ak (aH _))))))))))))
    (aq (eT 5 nd az))
    aO)
   (ao (aR (PW.pt (eX (PW.pt (eV (aF aU (af 5) az (aH _)) (dU (aF aU (cy bB (af 3) ak) ak (aH _))))) (gk (PW.pt (eV (aF aU (af 5) az (aH _)) (dU (aF aU (cy bB (af 3) ak) ak (aH _))))))))
    (aq (eT 5 nd az))
    aO)
   (ao (aR (PW.pt (eV (aF aU (af 5) az (aH _)) (dU (aF (km (eJ hu)) (cy bB (af 3) ak) (bz aj) (aH _)))))
    (aq (eT 5 nd az))
    aO)
   (ao (eT 10 nd (aD cQ ak (aD bZ (af 1) (aD cW (aD vU ak ak) ak))))
   (ao (aR (aF aU (af 5) az (aH _))
    (aq (eT 10 nd (aD cW (aD bZ (af 1) (aD cW (aD gD ak (aD vU ak ak)) ak)) (aD cW (aD vU ak ak) ak))))
    aO)
   (aq (aA (bj (aa (af 5) (aa (af 10) (aa (af 6) (aa (af 7) (aa (aD gn (af 4) ak) aj))))))))))))))))))),?_⟩
 refine⟨_,Z,_,Z,c,kk,Z,So,oo,fun m hm=>?_⟩;have AJ:=Ap m (show(8:Int)≠0 by decide);have Sf:=BG m (show(0:Int)<8 by decide);obtain⟨AD,xb,Nc⟩:=at8 AJ Sf;refine⟨lk obz,fun q0 E'=>?_⟩;have s0:=aB (o:=.lst [.str "take",.str "lean",.str "ask",.str "lost",.str "worlds",.str "give",.str "ask",.str "lost"]) E';refine⟨_,Z,_,_,Z,Z,(by show(0:Int)<8;decide),q0,_,_,.str AD,Z,Z,SqL.of au,xb,?_⟩;generalize upd H q0 (.lst [.str "take",.str "lean",.str "ask",.str "lost",.str "worlds",.str "give",.str "ask",.str "lost"])=H0 at s0 ⊢;refine⟨_,Z,_,Z,_,Z,_,_,Z,Z,c,kk+100,Z,oo,oo,fun m1 hm1=>⟨np,ns,m1,3,Z,s0 _ _ kG,h1,h8,odz,odz,fun vt tr H1 s1 ht hd hz hn=>?_⟩⟩;refine⟨_,Z,_,Z,_,Z,_,_,Z,Z,c,kk+200,Z,oo,oo,fun m2 nc=>⟨np,ns,m2,3,Z,s1 _ _ (s0 _ _ kG),h1,h8,odz,odz,fun vo UO H2 s2 MB hd2 hz2 rp=>?_⟩⟩;have PR:=(s0.trans s1).trans s2;have IJ:=PR _ _ kG;refine⟨_,Z,_,Z,np,vt,ns,tr,Z,IJ,h8,ht.mono s2.b9,hd,hn,fun H3 s3=>?_⟩;have xA:=PR.trans s3;have D6:=xA _ _ kG;have ht3:=ht.mono (s2.trans s3).b9;have el:(ns.map V.str).length=ns.length:=dS _;have c1:oA 1 (((ns.map V.str).length:Nat):Int):=⟨oo,by rw[el];exact oo,odz⟩
 have c2:oA 1 ((1:Int)*2^(((ns.map V.str).length:Nat):Int).toNat):=by
  rw[el,BI];exact⟨(BH h8).1,by have:=(BH h8).2;exact oo,odz⟩
 have ef:(1:Int)*2^((1:Int)*2^(((ns.map V.str).length:Nat):Int).toNat).toNat-1=((cu ns.length:Nat):Int):=by
  rw[el,BI,PU]
  rfl
 refine⟨_,Z,_,Z,np,_,Z,.inr (SqT.of D6),_,_,Z,Z,c1,_,_,Z,Z,c2,_,_,Z,Z,?_⟩
 try dsimp -proj -iota only
 rw[ef];refine⟨Z,?_⟩;obtain⟨QW,NL⟩:∃ QW:Bool,decide (V.int ((aP ns tr:Nat):Int)=V.int ((cu ns.length:Nat):Int))=QW:=⟨_,rfl⟩
 rw[NL];have kH:vj (.str AD) [V.str "give",V.str "lost"]=decide (AD="give"\/AD="lost"):=by rcases Nc with e|e|e|e|e|e<;>rw[e]<;>decide +kernel
 have ha:QW=true↔aP ns tr=cu ns.length:=by
  rw[<- NL,sh];exact⟨fun z=>Int.ofNat.inj (V.int.inj z),fun z=>by rw[z]⟩
 have VW:∀{n:Nat},decide (V.int ((n:Nat):Int)=V.int 0)=true↔n=0:=fun {n}=>by
  rw[sh];exact⟨fun z=>Int.ofNat.inj (V.int.inj z),fun z=>by rw[z];rfl⟩
 apply Pa (fun σ H'=>∃ kd:Str,σ=[some (.ref np),some (.int c),some (.int kk),some (.ref cl),some (.int m),some (.str kd),some vt,some vo,some (.int (aP ns tr:Nat)),some (.bl QW),none]/\aT H3 H'/\Cq ns tr kd)
 ·intro g
  apply Jx (S:=AD="take"->aP ns tr≠0)
  ·intro g2
   refine⟨_,Z,Z,_,Z,aQ (fun z1=>?x1) (fun z1=>bu ?x2)⟩
   case x1 =>
    refine⟨_,Z,Z,_,Z,aQ (fun z2=>bQ ?y1) (fun z2=>?y2)⟩
    case y1 =>
     show Ly _ _ _ _ _;apply g;exact⟨"ask",Z,aT.refl _,.inr (.inr (.inr (.inr (.inr rfl))))⟩
    case y2 =>
     apply g2;exact fun _ z=>z2 (VW.mpr z)
   case x2=>exact g2 fun z=>absurd (cS (by rw[z])) z1
  intro hS;refine⟨_,Z,lk obz,fun q1 xC=>⟨q1,_,Z,.inr (SqT.of au),Z,Z,?_⟩⟩;have s4:=aB (o:=.tup [.str "give",.str "lost"]) xC;generalize upd H3 q1 (.tup [.str "give",.str "lost"])=H4 at s4 ⊢;rw[bq gc,kH];apply Jx (S:=(AD="give"\/AD="lost")->aP ns tr≠cu ns.length)
  ·intro g3
   refine⟨_,Z,aQ (fun z1=>?x1) (fun z1=>bu ?x2)⟩
   case x1 =>
    refine⟨_,Z,_,Z,aQ (fun z2=>bQ ?y1) (fun z2=>?y2)⟩
    case y1=>exact g _ _ ⟨"ask",rfl,s4,.inr (.inr (.inr (.inr (.inr rfl))))⟩
    case y2 =>
     apply g3;exact fun _ z=>z2 (ha.mpr z)
   case x2=>exact g3 fun z=>absurd (cS z) z1
  intro hG;refine⟨_,Z,Z,_,Z,aQ (fun z1=>?x1) (fun z1=>bu ?x2)⟩
  case x1 =>
   have e1:AD="lean":=V.str.inj (en z1);refine⟨_,Z,_,Z,aQ (fun z2=>bQ ?y1) (fun z2=>?y2)⟩
   case y1=>exact g _ _ ⟨"ask",rfl,s4,.inr (.inr (.inr (.inr (.inr rfl))))⟩
   case y2 =>
    refine⟨_,Z,Z,_,Z,aQ (fun z3=>?w1) (fun z3=>?w2)⟩
    case w1=>exact g _ _ ⟨"ask",rfl,s4,.inr (.inr (.inr (.inr (.inr rfl))))⟩
    case w2=>exact g _ _ ⟨AD,rfl,s4,.inr (.inr (.inl ⟨e1,fun z=>z3 (VW.mpr z),fun z=>z2 (ha.mpr z)⟩))⟩
  case x2 =>
   have e1:¬AD="lean":=fun z=>z1 (cS (by rw[z]))
   refine g _ _ ⟨AD,rfl,s4,?_⟩;rcases Nc with e|e|e|e|e|e
   ·exact .inl ⟨e,hS e⟩
   ·exact .inr (.inl ⟨e,hG (.inl e)⟩)
   ·exact absurd e e1
   ·exact .inr (.inr (.inr (.inl ⟨e,hG (.inr e)⟩)))
   ·exact .inr (.inr (.inr (.inr (.inl e))))
   exact .inr (.inr (.inr (.inr (.inr e))))
 rintro σ H4 ⟨kd,rfl,s4,hV⟩
 have g7:¬kd="back"/\¬kd="again"/\¬kd="pour":=by
  rcases hV with⟨e,_⟩|⟨e,_⟩|⟨e,_⟩|⟨e,_⟩|e|e<;>rw[e]<;>exact⟨dk,dk,dk⟩
 have G':=xA.trans s4;have Vi:=ht3.mono s4.b9;have AE:=MB.mono (s3.trans s4).b9;have cp:oA 10 30:=⟨odz,odz,odz⟩
 refine⟨_,Z,Z,_,Z,aQ (fun z=>absurd (V.str.inj (en z)) g7.1) (fun _=>bu ⟨_,Z,Z,_,Z,aQ (fun z=>absurd (V.str.inj (en z)) g7.2.1) (fun _=>bu ?_)⟩)⟩;refine⟨_,Z,Z,_,Z,aQ (fun z=>absurd (V.str.inj (en z)) g7.2.2) (fun _=>bu ?_)⟩;refine⟨_,Z,_,_,Z,Z,cp,_,_,Z,Z,_,_,Z,Z,(by show(0:Int)<10^(30:Int).toNat-1;decide),_,_,Z,Z,?_⟩
 try dsimp -proj -iota only
 have a0:=Ap c (show(10:Int)^(30:Int).toNat-1≠0 by decide);have a1:=BG c (show(0:Int)<10^(30:Int).toNat-1 by decide);have OG:(10:Int)^(30:Int).toNat=10^30:=rfl;rw[OG]at a0 a1 ⊢;obtain⟨num,R6⟩:∃ num,1+c%(10^30-1)=num:=⟨_,rfl⟩
 rw[R6];refine⟨_,Z,Z,_,Z,aQ (fun z=>?_) (fun z=>?_)⟩
 ·have e1:kd="lean":=V.str.inj (en z)
  refine⟨_,Z,_,_,Z,Z,cp,_,_,Z,Z,.inl ⟨odz,odz⟩,_,_,Z,Z,_,_,Z,Z,(by show(0:Int)<2*10^(30:Int).toNat-1;decide),_,_,Z,Z,cp,_,_,Z,Z,_,_,Z,Z,?_⟩
  try dsimp -proj -iota only
  have b0:=Ap c (show(2:Int)*10^(30:Int).toNat-1≠0 by decide);have b1:=BG c (show(0:Int)<2*10^(30:Int).toNat-1 by decide);rw[OG]at b0 b1 ⊢;refine⟨_,Z,_,Z,_,Z,_,Z,_,Z,_,_,Z,Z,⟨odz,odz⟩,lk obz,fun q hq=>?_⟩;have s5:=aB (o:=.tup [.str kd,.int (c%(2*10^30-1)-(10^30-1)),vt,vo,.int (m/8)]) hq;exact k q vt vo tr UO kd _ _ _ (G'.trans s5) au (Vi.mono s5.b9) (AE.mono s5.b9) ⟨hd,oo,hn⟩ ⟨hd2,oo,rp⟩ hV (.inl ⟨e1,oo,oo⟩) oo
 have e1:¬kd="lean":=fun e=>z (cS (by rw[e]))
 refine⟨_,Z,_,Z,_,Z,_,Z,_,Z,_,_,Z,Z,⟨odz,odz⟩,lk obz,fun q hq=>?_⟩;have s5:=aB (o:=.tup [.str kd,.int num,vt,vo,.int (m/8)]) hq;exact k q vt vo tr UO kd _ _ _ (G'.trans s5) au (Vi.mono s5.b9) (AE.mono s5.b9) ⟨hd,oo,hn⟩ ⟨hd2,oo,rp⟩ hV (.inr ⟨e1,oo,oo⟩) oo
theorem Je:PT X e (fun _ _ _=>False):=by
 unfold L2.PT;exact fun _ _ _ _ _ _ h=>h.elim
def Pc(kd:Str):Prop:=kd="take"\/kd="give"\/kd="lean"\/kd="lost"\/kd="worlds"\/kd="ask"
theorem gK(h:Cq ns tr kd):Pc kd:=by
 rcases h with⟨z,_⟩|⟨z,_⟩|⟨z,_⟩|⟨z,_⟩|z|z
 ·exact .inl z
 ·exact .inr (.inl z)
 ·exact .inr (.inr (.inl z))
 ·exact .inr (.inr (.inr (.inl z)))
 ·exact .inr (.inr (.inr (.inr (.inl z))))
 exact .inr (.inr (.inr (.inr (.inr z))))
inductive v_(vs:List V)(H:Hp)(Q:VK)(E:XK):Prop
 |mk(l:Addr)(m:Int)(_:vs=[.int m,.ref l])(_:H l=some (.lst [.str "a"]))(_:0<=m)(_:∀(p:Addr) (H':Hp),aT H H'->Q (.ref p) H')
inductive wb(vs:List V)(H:Hp)(Q:VK)(E:XK):Prop
 |mk(cl q e:Addr)(a b:Int)(kd:Str)(us:List V)(_:vs=[.ref cl,.ref q])(_:H cl=some (.lst [.int a,.int b,.ref e]))(_:H q=some (.tup (.str kd::us)))(_:Pc kd)(_:∀(LA:Addr)(a' b':Int)(H':Hp),aT H H'->H' LA=some (.lst [.int a',.int b',.ref e])->(H LA=none\/LA=cl)->Q (.ref LA) H')
structure Pl where
 (kd:Str) (num:Int) (tr ot:Tr)
def hJ(H:Hp)(v:V)(x:Pl):Prop:=∃(q:Addr)(vt vo pa:V)(i:Int),v=.ref q/\H q=some (.tup [.str x.kd,.int x.num,vt,vo,.int i,pa])/\c8 H vt x.tr/\c8 H vo x.ot
theorem hJ.b9(k:gs H H'){x:Pl}(h:hJ H v x):hJ H' v x:=by
 obtain⟨q,vt,vo,pa,i,e,h1,h2,h3⟩:=h;exact⟨q,vt,vo,pa,i,e,k _ _ h1,h2.mono k,h3.mono k⟩
structure ll(ns:List Str)(x:Pl):Prop where
 tr:xk ns x.tr
 ot:xk ns x.ot
 vb:Cq ns x.tr x.kd
 nb:EH x.kd x.num
inductive CL(K:W.Frag)(vs:List V)(H:Hp)(Q:VK)(E:XK):Prop
 |mk(np l:Addr)(ns:List Str)(cs:List Int)(_:vs=[.ref np,.ref l])(_:H np=some (.tup (ns.map V.str)))(_:1<=ns.length)(_:ns.length<=8)(_:H l=some (.lst (cs.map V.int)))(_:cs.length<=90)(_:∀(p:Addr)(us:List V)(eB:List Pl)(H':Hp),aT H H'->H' p=some (.lst us)->Paired (hJ H') us eB->(∀ x∈eB,ll ns x)->eB.length=cs.length->Q (.ref p) H')
theorem Cr(T:Txt P w K mg t):FM P w base T.q103 1 v_:=by
 refine T.q103.F.eK (N:=["_law_m","_law_kept"]) eo ?_;rintro nd _ _ _ _ H _ _ _ hr ⟨l,m,rfl,hl,hm,k⟩;refine⟨_,(aq (aA (bW rfl ["_law_k","_law_kept","_law_m"] [none,some 1,some 0] (gw T.zp (aa (aD cQ ak (aD bZ (g5 0) ak)) aj)) kr (fun _ _ _ _ _ _=>(g6 0 (kF (l:=["_law_k","_law_kept","_law_m"])))) (fun _ _ _ _ _ _=>cM) (fun _ _ _ _ _ _=>(bj (aa (aD cQ ak (aD bZ (aD gn (g5 2) (aD cQ (af 0) ak)) ak)) (aa (cy (Gz (K:=K)) (g5 1) (aD bZ (aD gn (g5 2) (aD cQ (aD gD ak (af 0)) ak)) (aZ (vm (K:=K)) T.zd Bt.len (aa (g5 1) aj)))) aj))))))),?_⟩;have a0:=Ap m (show(4:Int)≠0 by decide);have a1:=BG m (show(0:Int)<4 by decide);refine⟨_,Z,_,_,Z,Z,(by show(0:Int)<4;decide),_,_,Z,Z,_,Z,by show(-(2^62):Int)<=1+m%4;exact oo,by show(1+m%4:Int)<2^62;exact oo,?_⟩;refine jN (lo:=0) (n:=(1+m%4).toNat) (fun i ys H'=>aT H H'/\ys.length=i) ⟨aT.refl _,rfl⟩ (lk oo) (fun i ys H' ⟨_,e⟩=>oo) ?_ ?_
 ·rintro i ys H1 hi ⟨s1,hy⟩
  refine⟨⟨Z,Z,trivial⟩,?_⟩;refine⟨_,Z,_,Z,_,_,Z,Z,_,_,Z,Z,⟨by show(0:Int)<0+(i:Int)+3;exact oo,by show 0+(i:Int)+3<1073741824;exact oo⟩,_,_,Z,Z,(by show(0:Int)<1000003;decide),_,_,Z,Z,?_⟩;refine⟨_,Z,_,Z,_,Z,_,_,Z,Z,.inl ⟨odz,odz⟩,_,_,Z,Z,_,_,Z,Z,⟨by show(0:Int)<5*(0+(i:Int))+2;exact oo,by show 5*(0+(i:Int))+2<1073741824;exact oo⟩,_,Z,l,_,Z,.inl (SqL.of (s1 _ _ hl)),_,_,Z,Z,(by show(0:Int)<1;decide),l,_,_,.str "a",Z,Z,SqL.of (s1 _ _ hl),?_,lk obz,fun q hq=>?_⟩
  ·have e:m/(5*(0+(i:Int))+2)%((([V.str "a"]:List V).length:Nat):Int)=0:=by
    show _%(1:Int)=0;exact oo
   rw[e]
   rfl
  exact⟨s1.trans (aB hq),by rw[aS,hy];rfl⟩
 rintro ys H1 ⟨s1,hy⟩ p hp;exact k p _ (s1.trans (aB hp))
theorem Cu(T:Txt P w K mg t):FM P w base T.q104 1 wb:=by
 refine T.q104.F.eK (N:=["_law_counts","_law_plan"]) eo ?_;rintro nd _ _ _ _ H _ _ _ hr ⟨cl,q,e,a,b,kd,us,rfl,BS,hq,xI,k⟩
 refine⟨_,(ao (aR (aF fQ (cy aJ (af 1) ak) (bj (aa az (aa az (aa az (aa az aj))))) ou)
    (aq (aA (bz (aa (aD cQ (cy bB (af 0) ak) ak) (aa ak (aa (cy bB (af 0) ak) aj))))))
    aO)
   (ao (aR (aF aU (cy aJ (af 1) ak) az (aH _))
    jA
    aO)
   (ao (aR (aF aU (cy aJ (af 1) ak) az (aH _))
    jA
    aO)
   (ao (aR (PW.pt (eV (aF aU (cy aJ (af 1) ak) az (aH _)) (dU Je)))
    jA
    aO)
   (aq (aA (af 0))))))),?_⟩
 have kH:vj (.str kd) [V.str "take",V.str "give",V.str "lean",V.str "pour"]=decide (kd="take"\/kd="give"\/kd="lean"):=by rcases xI with z|z|z|z|z|z<;>rw[z]<;>decide +kernel
 refine⟨_,Z,q,_,0,.str kd,Z,Z,SqT.of hq,bR (j:=0) rfl,lk obz,fun q1 xC=>⟨q1,_,Z,.inr (SqT.of au),Z,Z,?_⟩⟩;have s1:=aB (o:=.tup [.str "take",.str "give",.str "lean",.str "pour"]) xC;generalize upd H q1 (.tup [.str "take",.str "give",.str "lean",.str "pour"])=H1 at s1 ⊢;have IS:=s1 _ _ BS;have wt:=s1 _ _ hq;rw[bq gc,kH];refine⟨_,Z,aQ (fun z=>?_) (fun z=>?_)⟩
 ·refine⟨_,Z,cl,_,0,_,Z,Z,SqL.of IS,Z,_,_,Z,Z,_,Z,cl,_,2,_,Z,Z,SqL.of IS,Z,lk obz,fun c2 sv=>?_⟩
  exact k c2 _ _ _ (s1.trans (aB sv)) au (.inl (s1.free sv))
 have hk:¬kd="back"/\¬kd="again"/\¬kd="keep":=by
  rcases xI with e|e|e|e|e|e<;>rw[e]<;>exact⟨dk,dk,dk⟩
 refine⟨_,Z,q,_,0,_,Z,Z,SqT.of wt,bR (j:=0) rfl,Z,_,Z,aQ (fun z=>absurd (V.str.inj (en z)) hk.1) (fun _=>?_)⟩;refine⟨_,Z,q,_,0,_,Z,Z,SqT.of wt,bR (j:=0) rfl,Z,_,Z,aQ (fun z=>absurd (V.str.inj (en z)) hk.2.1) (fun _=>?_)⟩;refine⟨_,Z,q,_,0,_,Z,Z,SqT.of wt,bR (j:=0) rfl,Z,_,Z,aQ (fun z=>absurd (V.str.inj (en z)) hk.2.2) (fun _=>bu ?_)⟩;exact⟨_,Z,k cl _ _ _ s1 IS (.inr rfl)⟩
theorem Li:b_ ["_law_names","_law_cells","_law_plans","_law_counts","_law_k","_law_cell","_law_plan"] ["_law_names","_law_cells"] (aV Hd):=eo
theorem Jf(T:Txt P w K mg t):FM P w base T.q105 8 (CL K):=by
 refine T.q105.F.eK (k:=7) Li ?_;rintro nd _ _ _ _ H _ _ _ hr ⟨np,l,ns,cs,rfl,kG,h1,h8,hl,NS,k⟩;have hu:=fX hr
 refine⟨_,(ao (eT 2 nd (bz aj))
   (ao (eT 3 nd (bz (aa ak (aa ak (aa (bz aj) aj)))))
   (ao (dX i7 rfl (Bh (af 1) T.zm) (mj (n:=2) rfl (bG (g6 4 nd) (bG (g6 5 nd) eO)))
    (ao (eT 6 nd (dn T.q101 (Lh T) hr aM (aa (af 0) (aa (af 5) (aa (af 4) (aa (af 3) aj))))))
    (ao (bA (bY PySem.F.plainAttrs_list PySem.F.slot_list_append PySem.F.type_list_append cL (af 2) (aa (aD J4 (af 6) (bj (aa (dn T.q103 (Cr T) hr aM (aa (cy aJ (af 6) ak) (aa (aD wu (cy bB (af 3) ak) (aD Mj (bz (aa az aj)) (dj ut T.zG Bt.int (aa (b8 (km (eJ hu)) (cy bB (af 3) ak) (bz aj) (aH _)) aj)))) aj))) aj))) aj)))
    (aq (eT 3 nd (dn T.q104 (Cu T) hr aM (aa (af 3) (aa (af 6) aj))))))))
   (aq (aA (af 2)))))),?_⟩
 refine⟨lk obz,fun pl gI=>⟨lk obz,fun e he=>⟨lk obz,fun cl BS=>?_⟩⟩⟩;have u1:=aB (o:=.lst []) gI;have u2:=aB (o:=.lst []) he;have u3:=aB (o:=.lst [.int 0,.int 0,.ref e]) BS;have s3:=(u1.trans u2).trans u3;have MQ:=u3 _ _ (u2 _ _ (show(upd H pl (.lst [])) pl=some (.lst [])from au));have VF:=u3 _ _ (show(upd (upd H pl (.lst [])) e (.lst [])) e=some (.lst [])from au);have NH:(upd (upd (upd H pl (.lst [])) e (.lst [])) cl (.lst [.int 0,.int 0,.ref e])) cl=_:=au;have _P:pl≠e:=aK au he;have _Q:cl≠pl:=ba (aK (u2 _ _ au) BS);generalize upd (upd (upd H pl (.lst [])) e (.lst [])) cl (.lst [.int 0,.int 0,.ref e])=H0 at s3 MQ VF NH ⊢;have IL:=s3 _ _ hl
 refine⟨_,rfl,l,rfl,⟨_,SqL.of IL⟩,wL (K:=K) (a:=l) (xs:=cs.map V.int)
  (fun i σ H'=>∃(o4 o5 o6:Option V)(cl:Addr)(a b:Int)(us:List V)(eB:List Pl),σ=[some (.ref np),some (.ref l),some (.ref pl),some (.ref cl),o4,o5,o6]/\aT H H'/\H' pl=some (.lst us)/\H' e=some (.lst [])/\H' cl=some (.lst [.int a,.int b,.ref e])/\cl≠pl/\Paired (hJ H') us eB/\(∀ x∈eB,ll ns x)/\eB.length=i)
  ⟨none,none,none,cl,0,0,[],[],rfl,s3,MQ,VF,NH,_Q,.nil,(fun x hx=>nomatch hx),rfl⟩ (fun i σ H' _ ⟨_,_,_,_,_,_,_,_,_,s',_⟩=>SqL.of (s' _ _ hl)) ?_ ?_⟩
 ·rintro i y σ H1 hi ⟨o4,o5,o6,cl,a,b,us,eB,rfl,s1,hp1,QG,D9,SA,hP,hok,hlen⟩ d hd
  have Su:i<90:=by
   have:=(List.getElem?_eq_some_iff.mp hi).1;rw[dS]at this;exact oo
  rw[kT]at hi
  obtain⟨c,hc,rfl⟩:∃ c,cs[i]?=some c/\y=V.int c:=by
   cases q:cs[i]? with
   |none=>rw[q]at hi;cases hi
   |some c=>rw[q]at hi;exact⟨c,Z,(iE hi).symm⟩
  have v1:=aB (o:=.tup [.int i,.int c]) hd;refine⟨d,_,Z,SqT.of au,Z,_,_,Z,_,_,Z,Z,?_⟩;generalize upd H1 d (.tup [.int i,.int c])=H2 at v1 ⊢;refine⟨_,Z,_,Z,_,Z,_,Z,np,cl,ns,c,i,Z,v1 _ _ (s1 _ _ kG),h1,h8,oo,oo,fun q vt vo tr ot kd num m5 H3 s3 hq ht AE hT hTo hV hN AJ=>?_⟩;have v3:=v1.trans s3;have E6:us.length=i:=by rw[bg hP,hlen]
  refine⟨_,Z,.inl ⟨Z,_,SqL.of (v3 _ _ hp1)⟩,_,Z,_,Z,q,_,4,_,Z,Z,SqT.of hq,Z,_,Z,cl,_,2,_,Z,Z,SqL.of (v3 _ _ D9),Z,lk obz,fun la Sk=>?_⟩;have v4:=aB (o:=.lst [.str "a"]) Sk;refine⟨_,Z,cl,_,2,_,Z,Z,SqL.of (v4 _ _ (v3 _ _ D9)),Z,lk obz,fun lb hlb=>?_⟩;have v5:=aB (o:=.lst []) hlb;refine⟨e,lb,_,Z,Z,SqL.of (v5 _ _ (v4 _ _ (v3 _ _ QG))),SqL.of au,.inr ⟨_,Z,la,_,_,Z,Z,v5 _ _ au,odz,odz,odz,fun lc D8=>?_⟩⟩;have v6:=aB (o:=.lst (List.replicate (if id ([]:List V).isEmpty=true then(1:Int)else 0).toNat [V.str "a"]).flatten) D8;refine⟨e,lc,[],[.str "a"],Z,Z,v6 _ _ (v5 _ _ (v4 _ _ (v3 _ _ QG))),au,odz,fun ld QA=>?_⟩;have v7:=aB (o:=.lst ([]++[V.str "a"])) QA;refine⟨ld,m5,Z,au,AJ,fun pa H4 s4=>⟨lk obz,fun qe hqe=>?_⟩⟩;have v8:=aB (o:=.tup [.ref pa]) hqe;have w4:aT H3 _:=(((v4.trans v5).trans v6).trans v7).trans s4;have w5:=w4.trans v8;refine⟨q,qe,_,_,Z,Z,SqT.of (w5 _ _ hq),SqT.of au,eA _ _,lk obz,(fun z=>absurd z (eA _ _)),fun _ qf hqf=>?_⟩;have v9:=aB (o:=.tup ([.str kd,.int num,vt,vo,.int m5]++[.ref pa])) hqf;have w6:=w5.trans v9;have ML:(upd (upd H4 qe (.tup [.ref pa])) qf (.tup ([.str kd,.int num,vt,vo,.int m5]++[.ref pa]))) qf=some (.tup [.str kd,.int num,vt,vo,.int m5,.ref pa]):=au;generalize upd (upd H4 qe (.tup [.ref pa])) qf (.tup ([.str kd,.int num,vt,vo,.int m5]++[.ref pa]))=H5 at w6 ML ⊢;have x5:=v3.trans w6;have Vo:=x5 _ _ hp1;refine⟨pl,_,_,Z,Z,Vo,dR oo,?_⟩;have T5:gs H5 (upd H5 pl (.lst (us++[.ref qf]))):=fun b xs eb=>by rw[aG (bF eb Vo)];exact eb
  have VI:(upd H5 pl (.lst (us++[.ref qf]))) cl=some (.lst [.int a,.int b,.ref e]):=by rw[aG SA];exact x5 _ _ D9
  have VE:(upd H5 pl (.lst (us++[.ref qf]))) e=some (.lst []):=by rw[aG (ba _P)];exact x5 _ _ QG
  have P9:(upd H5 pl (.lst (us++[.ref qf]))) q=some (.tup (.str kd::[.int num,vt,vo,.int m5])):=T5 _ _ (w6 _ _ hq);have R1:(upd H5 pl (.lst (us++[.ref qf]))) pl=some (.lst (us++[.ref qf])):=au;have s6:aT H (upd H5 pl (.lst (us++[.ref qf]))):=fun b o eb=>by rw[aG (aK eb gI)];exact x5 _ _ (s1 _ _ eb)
  have VP:Paired (hJ (upd H5 pl (.lst (us++[.ref qf])))) (us++[.ref qf]) (eB++[⟨kd,num,tr,ot⟩]):=dg (Paired.gV hP fun _ _ z=>(z.b9 x5.b9).b9 T5) (.cons ⟨qf,vt,vo,.ref pa,m5,rfl,T5 _ _ ML,(ht.mono w6.b9).mono T5,(AE.mono w6.b9).mono T5⟩ .nil);generalize upd H5 pl (.lst (us++[.ref qf]))=H6 at VI VE P9 R1 s6 VP ⊢;have xI:=gK hV;refine⟨_,Z,_,Z,cl,q,e,a,b,kd,_,Z,VI,P9,xI,fun LA a' b' H7 s7 hc7 Sw=>?_⟩;refine⟨_,_,_,LA,a',b',us++[.ref qf],eB++[⟨kd,num,tr,ot⟩],Z,s6.trans s7,s7 _ _ R1,s7 _ _ VE,hc7,?_,Paired.gV VP fun _ _ z=>z.b9 s7.b9,?_,by rw[aS,hlen];rfl⟩
  ·rcases Sw with z|z
   ·exact fun y=>by rw[y,R1]at z;cases z
   rw[z];exact SA
  intro x hx;rcases aw.mp hx with hx|hx
  ·exact hok x hx
  rw[ar.mp hx];exact⟨hT,hTo,hV,hN⟩
 rintro σ H1 ⟨o4,o5,o6,cl,a,b,us,eB,rfl,s1,hp1,QG,D9,SA,hP,hok,hlen⟩;rw[dS]at hlen;exact⟨_,Z,k pl us eB H1 s1 hp1 hP hok hlen⟩
def jt(i:Int):Str:=if i=0 then " : " else if i=1 then ":" else if i=2 then ": " else " :"
def c7(x:Pl):Str:=if x.kd="take"\/x.kd="lean" then x.kd++" "++eN x.num++" "++wrT x.tr else if x.kd="lost" then "lost "++wrT x.tr++jt (x.num%4)++wrT x.ot else if x.kd="worlds" then "worlds" else x.kd++" "++wrT x.tr
theorem N5{m:Int}(h0:0<=m)(h4:m<4):qo [V.str " : ",V.str ":",V.str ": ",V.str " :"] m=some (.str (jt m)):=by
 obtain⟨n,rfl⟩:∃ n:Nat,m=(n:Int):=⟨m.toNat,oo⟩
 match n,(by omega:n<4)with
 | 0,_=>rfl
 | 1,_=>rfl
 | 2,_=>rfl
 | 3,_=>rfl
theorem Ag(m:Int):(jt m).length <= 3:=by
 unfold jt
 split
 ·decide +kernel
 split
 ·decide +kernel
 split<;>decide +kernel
theorem iC(hN:gi ns)(h:∀ x∈tr.names,x∈ns):dJ tr:=fun x hx=>lL (hN.nm x (h x hx))
theorem Lj{i:Int}(h1 : -(10^30)<i)(h2:i<10^30):i.natAbs.log2<1920:=by
 by_cases h0:i.natAbs=0
 ·rw[h0];decide
 refine(Nat.log2_lt h0).mpr ?_;have:i.natAbs<10^30:=oo
 exact Nat.lt_trans this odz
theorem xR{i:Int}(h1 : -(10^30)<i)(h2:i<10^30):(eN i).length <= 31:=by
 rw[lF];rcases nt i 0 with hi|hi
 ·obtain⟨n,rfl⟩:∃ n:Nat,i = -((n+1:Nat):Int):=⟨(-i).toNat-1,oo⟩
  rw[lu oo];have:=(iy 29 (n+1)).2;show(cI 29 (n+1)).length+1<=31;exact oo
 obtain⟨n,rfl⟩:∃ n:Nat,i=(n:Int):=⟨i.toNat,oo⟩
 rw[iz oo];have:=(iy 29 n).2;show(cI 29 n).length <= 31;exact oo
theorem EH.oq{num:Int}(h:EH kd num): -(10^30)<num/\num<10^30:=by
 rcases h with⟨_,h⟩|⟨_,h1,h2⟩
 ·exact h
 exact⟨oo,h2⟩
theorem kd_len(h:Pc kd):kd.length<=6:=by
 rcases h with z|z|z|z|z|z<;>rw[z]<;>decide +kernel
theorem j4(hN:gi ns)(h:xk ns tr):(wrT tr).length <= 99:=by
 rw[lF];exact fA (pN (iC hN h.nm)) (jc h.dp)
theorem rC(hN:gi ns){x:Pl}(h:ll ns x):(c7 x).length <= 210:=by
 have h1:=kd_len (gK h.vb);have h2:=j4 hN h.tr;have h3:=xR h.nb.oq.1 h.nb.oq.2;have h4:=j4 hN h.ot;have h5:=Ag (x.num%4);have l2:(" ":Str).length=1:=by decide +kernel
 have l5:("lost ":Str).length=5:=by decide +kernel
 have l6:("worlds":Str).length=6:=by decide +kernel
 unfold c7
 split
 ·rw[ai,ai,ai,ai]
  exact oo
 split
 ·rw[ai,ai,ai]
  exact oo
 split
 ·omega
 rw[ai,ai];exact oo
inductive CI(vs:List V)(H:Hp)(Q:VK)(E:XK):Prop
 |mk(v:V)(x:Pl)(ns:List Str)(_:vs=[v])(_:hJ H v x)(_:ll ns x)(_:gi ns)(_:∀ H',aT H H'->Q (.str (c7 x)) H')
def lR(ns:List Str)(eB:List Pl):Str:=Txt.join "\n" (("names" ++ " "++Txt.join " " ns):: eB.map c7)
inductive yi(vs:List V)(H:Hp)(Q:VK)(E:XK):Prop
 |mk(np l:Addr)(us:List V)(eB:List Pl)(ns:List Str)(_:vs=[.ref np,.ref l])(_:H np=some (.tup (ns.map V.str)))(_:ns.length<=8)(_:H l=some (.lst us))(_:Paired (hJ H) us eB)(_:(∀ x∈eB,ll ns x))(_:gi ns)(_:eB.length<=90)(_:∀ H',aT H H'->Q (.str (lR ns eB)) H')
theorem xT(z:Str)(ys:List Str):(Txt.join z ys).length <= (ys.map (·.length)).sum+ys.length*z.length:=by
 have:=size_glued z ys;show(Builtin.Str.glued z ys).length <= _;rw[this];exact e_ (gx _ (Nat.sub_le _ _)) _
theorem xU{m:Nat}(h:∀ y∈ys,y.length<=m):(ys.map (·.length)).sum <= ys.length*m:=by
 induction ys with
 |nil=>exact mf _
 | cons y r ih =>
  rw[b3,List.sum_cons,bp,Nat.succ_mul];have:=h y qms;have:=ih fun z hz=>h z (k8 _ hz)
  exact oo
theorem u6(hN:gi ns)(h8:ns.length<=8):(ns.map (·.length)).sum+ns.length*(" ":Str).length <= 72/\(Txt.join " " ns).length <= 72:=by
 have l2:(" ":Str).length=1:=by decide +kernel
 have h1:=xU (ys:=ns) (m:=8) fun y hy=>by
  rw[lF];exact(hN.nm y hy).le
 have h2:=xT " " ns;have h3:ns.length*8<=64:=oo
 rw[l2]at h2 ⊢;exact oo
theorem Lk:b_ ["_law_plan","_law_verb","_law_colon"] ["_law_plan"] (aV Hf):=eo
theorem Jg(T:Txt P w K mg t):FM P w base T.q106 6 CI:=by
 have r9:=Ae (base:=base) T 4;refine T.q106.F.eK (k:=5) Lk ?_;rintro nd _ _ _ _ H _ Q _ hr ⟨v,⟨kd,num,tr,ot⟩,ns,rfl,⟨q,vt,vo,pa,i,rfl,hq,ht,AE⟩,hok,hN,k⟩
 refine⟨_,(ao (eT 1 nd (cy aJ (af 0) ak))
   (ao (aR (aF fQ (af 1) (bj (aa az (aa az aj))) ou)
    (aq (aA (aD bh (aD bh (aD bh (aD bh (af 1) az) (dj gF T.zt Bt.str (aa (cy aJ (af 0) ak) aj))) az) (dn T.q100 r9 hr aM (aa (cy aJ (af 0) ak) aj)))))
    aO)
   (ao (aR (aF fQ (af 1) (bj (aa az (aa az aj))) ou)
    (aq (aA (aD bh (aD bh (af 1) az) (dn T.q100 r9 hr aM (aa (cy aJ (af 0) ak) aj)))))
    aO)
   (ao (aR (aF aU (af 1) az (aH _))
    (ao (eT 2 nd (cy bB (bz (aa az (aa az (aa az (aa az aj))))) (aD bZ (cy aJ (af 0) ak) ak)))
    (aq (aA (aD bh (aD bh (aD bh az (dn T.q100 r9 hr aM (aa (cy aJ (af 0) ak) aj))) (af 2)) (dn T.q100 r9 hr aM (aa (cy aJ (af 0) ak) aj))))))
    aO)
   (ao (aR (aF aU (af 1) az (aH _))
    jA
    aO)
   (ao (aR (aF aU (af 1) az (aH _))
    jA
    aO)
   (aq (aA (af 1))))))))),?_⟩
 have xI:Pc kd:=gK hok.vb;have hkl:=kd_len xI;have ow:=iC hN hok.tr.nm;have hwl:(wrT tr).length <= 99:=j4 hN hok.tr;have R':(eN num).length <= 31:=xR hok.nb.oq.1 hok.nb.oq.2;have sT:num.natAbs.log2<1920:=Lj hok.nb.oq.1 hok.nb.oq.2;have l2:(" ":Str).length=1:=by decide +kernel
 have sz:1000<=sizeLine:=by decide
 have hq:H q=some (.tup [.str kd,.int num,vt,vo,.int i,pa]):=hq;have ht:c8 H vt tr:=ht;have AE:c8 H vo ot:=AE;have hwo:(wrT ot).length <= 99:=j4 hN hok.ot;have R9:=iC hN hok.ot.nm;unfold c7 at k;have k:∀ H',aT H H'->Q (.str (if kd="take"\/kd="lean" then kd++" "++eN num++" "++wrT tr else if kd="lost" then "lost "++wrT tr++jt (num%4)++wrT ot else if kd="worlds" then "worlds" else kd++" "++wrT tr)) H':=k;have kH:vj (.str kd) [V.str "take",V.str "lean"]=decide (kd="take"\/kd="lean"):=by rcases xI with z|z|z|z|z|z<;>rw[z]<;>decide +kernel
 refine⟨_,Z,q,_,0,_,Z,Z,SqT.of hq,Z,?_⟩;refine⟨_,Z,lk obz,fun q1 xC=>⟨q1,_,Z,.inr (SqT.of au),Z,Z,?_⟩⟩;have s1:=aB (o:=.tup [.str "take",.str "lean"]) xC;generalize upd H q1 (.tup [.str "take",.str "lean"])=H1 at s1 ⊢;have wt:=s1 _ _ hq;rw[bq gc,kH];refine⟨_,Z,aQ (fun z=>?_) (fun z=>?_)⟩
 ·have z:=en z
  rw[b6 z]at k;refine⟨_,Z,_,_,Z,Z,oo,_,Z,q,_,1,_,Z,Z,SqT.of wt,Z,num,Z,sT,_,_,Z,Z,?_,?_⟩
  ·show(kd++" ":Str).length+(eN num).length <= sizeLine
   rw[ai];exact oo
  refine⟨_,_,Z,Z,?_,?_⟩
  ·show(kd++" "++eN num:Str).length+(" ":Str).length <= sizeLine
   rw[ai,ai];exact oo
  refine⟨_,Z,q,_,2,vt,Z,Z,SqT.of wt,Z,vt,tr,Z,ht.mono s1.b9,hok.tr.dp,odz,ow,fun H2 s2=>?_⟩;refine⟨_,_,Z,Z,?_,k H2 (s1.trans s2)⟩;show(kd++" "++eN num++" ":Str).length+(wrT tr).length <= sizeLine;rw[ai,ai,ai];exact oo
 have z:¬(kd="take"\/kd="lean"):=fun e=>z (cS e)
 rw[bq z]at k;have Sr:vj (.str kd) [V.str "give",V.str "ask"]=decide (kd="give"\/kd="ask"):=by rcases xI with e|e|e|e|e|e<;>rw[e]<;>decide +kernel
 refine⟨_,Z,lk obz,fun q2 hq2=>⟨q2,_,Z,.inr (SqT.of au),Z,Z,?_⟩⟩;have s2:=aB (o:=.tup [.str "give",.str "ask"]) hq2;generalize upd H1 q2 (.tup [.str "give",.str "ask"])=H2 at s2 ⊢;have j_:=s1.trans s2;rw[bq gc,Sr];refine⟨_,Z,aQ (fun z2=>?_) (fun z2=>?_)⟩
 ·have z2:=en z2
  rw[bq (by rcases z2 with e|e<;>rw[e]<;>decide +kernel),bq (by rcases z2 with e|e<;>rw[e]<;>decide +kernel)]at k;refine⟨_,Z,_,_,Z,Z,oo,?_⟩;refine⟨_,Z,q,_,2,vt,Z,Z,SqT.of (j_ _ _ hq),Z,vt,tr,Z,ht.mono j_.b9,hok.tr.dp,odz,ow,fun H3 s3=>?_⟩;refine⟨_,_,Z,Z,?_,k H3 (j_.trans s3)⟩;show(kd++" ":Str).length+(wrT tr).length <= sizeLine;rw[ai];exact oo
 have z2:¬(kd="give"\/kd="ask"):=fun e=>z2 (cS e)
 refine⟨_,Z,Z,_,Z,aQ (fun z3=>?_) (fun z3=>?_)⟩
 ·have z3:kd="lost":=V.str.inj (en z3)
  rw[b6 z3]at k;have a0:=Ap num (show(4:Int)≠0 by decide);have a1:=BG num (show(0:Int)<4 by decide);have BS:=Ag (num%4);have l5:("lost ":Str).length=5:=by decide +kernel
  refine⟨lk obz,fun lc D8=>?_⟩;have s3:=aB (o:=.lst [.str " : ",.str ":",.str ": ",.str " :"]) D8;have iP:=j_.trans s3;refine⟨_,Z,q,_,1,_,Z,Z,SqT.of (iP _ _ hq),Z,_,_,Z,Z,(by show(0:Int)<4;decide),lc,_,_,.str (jt (num%4)),Z,Z,SqL.of au,N5 a0 a1,?_⟩;generalize upd H2 lc (.lst [.str " : ",.str ":",.str ": ",.str " :"])=H3 at s3 iP ⊢;refine⟨_,Z,q,_,2,vt,Z,Z,SqT.of (iP _ _ hq),Z,vt,tr,Z,ht.mono iP.b9,hok.tr.dp,odz,ow,fun H4 s4=>?_⟩;have BD:=iP.trans s4;refine⟨_,_,Z,Z,oo,_,Z,_,_,Z,Z,by rw[ai];exact oo,?_⟩;refine⟨_,Z,q,_,3,vo,Z,Z,SqT.of (BD _ _ hq),Z,vo,ot,Z,AE.mono BD.b9,hok.ot.dp,odz,R9,fun H5 s5=>?_⟩;refine⟨_,_,Z,Z,by rw[ai,ai];exact oo,k H5 (BD.trans s5)⟩
 have z3:¬kd="lost":=fun e=>z3 (cS (by rw[e]))
 have hw:kd="worlds":=by
  rcases xI with e|e|e|e|e|e
  ·exact absurd (.inl e) z
  ·exact absurd (.inl e) z2
  ·exact absurd (.inr e) z
  ·exact absurd e z3
  ·exact e
  exact absurd (.inr e) z2
 rw[bq z3,b6 hw]at k;refine⟨_,Z,Z,_,Z,aQ (fun e=>absurd (V.str.inj (en e)) (by rw[hw];decide +kernel)) (fun _=>?_)⟩;refine⟨_,Z,Z,_,Z,aQ (fun e=>absurd (V.str.inj (en e)) (by rw[hw];decide +kernel)) (fun _=>?_)⟩;rw[<- hw]at k;exact⟨_,Z,k H2 j_⟩
theorem Jh:b_ ["_law_names","_law_plans"] ["_law_names","_law_plans"] (aV Hg):=eo
theorem FW(T:Txt P w K mg t):FM P w base T.q107 7 yi:=by
 refine T.q107.F.eK (k:=6) Jh ?_;rintro nd _ _ _ _ H _ _ _ hr ⟨np,l,us,eB,ns,rfl,kG,h8,hl,hP,hok,hN,NS,k⟩;refine⟨_,(aq (aA (bY PySem.F.plainAttrs_str PySem.F.slot_str_join PySem.F.type_str_join jW az (aa (aD wu (bz (aa (aD bh az (bY PySem.F.plainAttrs_str PySem.F.slot_str_join PySem.F.type_str_join G3 az (aa (af 0) aj))) aj)) (bW rfl ["_law_plan"] [none] (cJ (af 1)) kr (fun _ _ _ _ _ _=>(g6 0 (kF (l:=["_law_plan"])))) (fun _ _ _ _ _ _=>cM) (fun _ _ _ _ _ _=>(dn T.q106 (Jg T) hr aM (aa (af 0) aj))))) aj)))),?_⟩;obtain⟨xD,rp⟩:=u6 hN h8;have E6:us.length=eB.length:=bg hP;have l6:("names ":Str).length=6:=by decide +kernel
 have e6:("names ":Str)="names" ++ " ":=by decide +kernel
 have sz:1000<=sizeLine:=by decide
 refine⟨Z,Z,_,Z,_,np,ns,Z,Z,SqT.of kG,fA xD odz,_,_,Z,Z,oo,lk obz,fun l1 rL=>?_⟩;have s1:=aB (o:=.lst [.str ("names "++Txt.join " " ns)]) rL;have AO:(upd H l1 (.lst [.str ("names "++Txt.join " " ns)])) l1=some (.lst [.str ("names "++Txt.join " " ns)]):=au;generalize upd H l1 (.lst [.str ("names "++Txt.join " " ns)])=H1 at s1 AO ⊢;refine⟨_,Z,l,Z,⟨_,SqL.of (s1 _ _ hl)⟩,?_⟩;refine fU (K:=K) (a:=l) (xs:=us) (fun i ys H'=>aT H1 H'/\ys=((eB.take i).map c7).map V.str) ⟨aT.refl _,rfl⟩ (lk oo) (fun i ys H' ⟨_,e⟩=>by rw[e,dS,dS,bE];exact oo) (fun i ys H' ⟨s',_⟩=>SqL.of (s' _ _ (s1 _ _ hl))) ?_ ?_
 ·rintro i y ys H2 hi ⟨s2,rfl⟩
  obtain⟨x,hx,IC⟩:=bN hP i y hi;have hmx:x∈eB:=qh hx;refine⟨trivial,_,Z,y,x,ns,Z,IC.b9 (s1.trans s2).b9,hok x hmx,hN,fun H3 s3=>⟨s2.trans s3,?_⟩⟩;rw[pj,hx,ax,ax]
  rfl
 rintro ys H2 ⟨s2,rfl⟩ l2 ko;rw[E6,bS];have s3:=aB (o:=.lst ((eB.map c7).map V.str)) ko;refine⟨l1,l2,_,_,Z,Z,s3 _ _ (s2 _ _ AO),au,lk (by simp;exact oo),fun l3 BQ=>?_⟩;have e3:[V.str ("names "++Txt.join " " ns)]++(eB.map c7).map V.str=((("names" ++ " "++Txt.join " " ns):: eB.map c7).map V.str):=by rw[e6];rfl
 rw[e3];have ln:("\n":Str).length=1:=by decide +kernel
 refine⟨_,l3,_,Z,Z,SqL.of au,?_,k _ (((s1.trans s2).trans s3).trans (aB BQ))⟩
 have hs:=xU (ys:=("names" ++ " "++Txt.join " " ns):: eB.map c7) (m:=210) fun y hy=>by
  rcases av.mp hy with rfl|hy
  ·rw[<- e6,ai]
   exact oo
  obtain⟨x,hx,rfl⟩:=ck.mp hy;exact rC hN (hok x hx)
 rw[bp,dS]at hs ⊢;rw[ln];have:(eB.length+1)*210<=91*210:=gx _ oo;exact oo
theorem uf(a b c:Str):a++b++c=a++(b++c):=jH (by rw[bT,bT,bT,bT,c_])
theorem FZ:iW "take"=some sG:=b6 rfl
theorem Ga:iW "lean"=some sH:=by
 unfold iW;rw[bq dk,bq dk,b6 rfl]
theorem Gb(h:kd="give"\/kd="ask"):iW kd=some vN:=by
 unfold iW;rw[bq (by rcases h with e|e<;>rw[e]<;>decide +kernel),b6 h]
theorem Gd:iW "lost"=some nG:=by
 unfold iW;rw[bq dk,bq dk,bq dk,bq dk,bq dk,b6 rfl]
theorem yx:iW "worlds"=some sE:=by
 unfold iW;rw[bq dk,bq dk,bq dk,bq dk,b6 (.inr (.inr rfl))]
def fC(x:Pl):List Tr:=if x.kd="lost" then [x.tr,x.ot]else if x.kd="worlds" then []else [x.tr]
def lY(x:Pl):Str×V×List Tr:=(x.kd,if x.kd="take"\/x.kd="lean" then .int x.num else .non,fC x)
theorem JP(m:Int):∃ pre post:List Nat,(jt m).cps.toList=pre++58::post/\(pre=[]\/pre=[32])/\(post=[]\/post=[32]):=by
 unfold jt
 split
 ·exact⟨[32],[32],dk,.inr rfl,.inr rfl⟩
 split
 ·exact⟨[],[],dk,.inl rfl,.inl rfl⟩
 split
 ·exact⟨[],[32],dk,.inl rfl,.inr rfl⟩
 exact⟨[32],[],dk,.inr rfl,.inl rfl⟩
theorem N6(h:58∈x.cps.toList):Txt.contains x ":"=true:=by
 have e:=JF;cases hc:Txt.contains x ":" with
 |true=>rfl
 | false =>
  have ho:(Builtin.Str.occurrences x ":" 0 x.length 1).isEmpty=true:=by
   unfold Txt.contains at hc
   simpa using hc
  have:=PyProof.Rows.isIn_false ho e;rw[PyProof.Rows.isIn_signs]at this
  have hm:(PyProof.Rows.signs x).any (· == (⟨#[58]⟩:Str))=true:=by
   rw[m4];refine⟨⟨#[58]⟩,?_,mP _⟩;unfold PyProof.Rows.signs;exact ck.mpr ⟨58,h,rfl⟩
  rw[hm]at this;cases this
theorem xV{A:Str}(h:Clean A){pre:List Nat}(hp:pre=[]\/pre=[32]):gJ (jo (A.cps.toList++pre))=A:=by
 rcases hp with rfl|rfl
 ·rw[bX,pM rfl]
  exact lX h
 refine jH ?_;unfold gJ;rw[nA,tU,sy]
 have h1:¬(A.cps.toList++[32]).head?=some 32:=by
  obtain⟨c,e,hc⟩:=h.hd;cases hA:A.cps.toList with
  |nil=>rw[hA]at e;cases e
  | cons d r =>
   rw[hA]at e;have e:some d=some c:=e;intro z;have z:some d=some 32:=z;rw[e]at z;exact hc (iE z)
 rw[nH h1,kl]
 have h2:¬A.cps.toList.reverse.head?=some 32:=by
  obtain⟨c,e,hc⟩:=h.la;rw[List.head?_reverse,e];exact fun z=>hc (iE z)
 show((32::A.cps.toList.reverse).dropWhile (· == 32)).reverse=_;rw[p_,b6 odz,nH h2,dr]
theorem yz{A:Str}(h:Clean A){post:List Nat}(hp:post=[]\/post=[32]):gJ (jo (post++A.cps.toList))=A:=by
 rcases hp with rfl|rfl
 ·rw[Bi,pM rfl]
  exact lX h
 refine jH ?_;unfold gJ;rw[nA,tU,sy];show(((32::A.cps.toList).dropWhile (· == 32)).reverse.dropWhile (· == 32)).reverse=_;rw[p_,b6 odz,nH h.rV]
 have h2:¬A.cps.toList.reverse.head?=some 32:=by
  obtain⟨c,e,hc⟩:=h.la;rw[List.head?_reverse,e];exact fun z=>hc (iE z)
 rw[nH h2,dr]
theorem Cv{A B:Str}(hA:Clean A)(hB:Clean B)(h58:58∉A.cps.toList)(m:Int):nG (A++jt m++B)=some (.non,[A,B]):=by
 obtain⟨pre,post,e,h1,h2⟩:=JP m
 have el:(A++jt m++B:Str).cps.toList=(A.cps.toList++pre)++58::(post++B.cps.toList):=by
  rw[bT,bT,e];simp
 have hp:58∉A.cps.toList++pre:=fun z=>by
  rcases aw.mp z with z|z
  ·exact h58 z
  rcases h1 with rfl|rfl
  ·cases z
  exact absurd (ar.mp z) odz
 unfold nG;rw[b6 (N6 (by rw[el];simp)),el,(lq hp _).1,(lq hp _).2,xV hA h1,yz hB h2]
theorem sZ{A B:Str}(hA:Clean A)(hB:Clean B)(m:Int):Clean (A++jt m++B):=by
 obtain⟨pre,post,e,h1,h2⟩:=JP m
 have el:(A++jt m++B:Str).cps.toList=A.cps.toList++((pre++58::post)++B.cps.toList):=by
  rw[bT,bT,e,c_]
 refine⟨?_,?_,?_⟩
 ·rw[el]
  intro z;rcases aw.mp z with z|z
  ·exact hA.nl z
  rcases aw.mp z with z|z
  ·rcases h1 with rfl|rfl<;>rcases h2 with rfl|rfl<;>simp at z
  exact hB.nl z
 ·obtain⟨c,hc,hn⟩:=hA.hd
  refine⟨c,?_,hn⟩;rw[el];cases hA':A.cps.toList with
  |nil=>rw[hA']at hc;cases hc
  |cons d r=>rw[hA']at hc;exact hc
 obtain⟨c,hc,hn⟩:=hB.la;refine⟨c,?_,hn⟩;rw[el,List.getLast?_append,List.getLast?_append,hc]
 rfl
theorem u9{i:Int}(h1 : -(10^30)<i)(h2:i<10^30):32∉(eN i).cps.toList/\10∉(eN i).cps.toList/\¬(eN i).cps.toList.head?=some 32:=by
 have key:∀ n k:Nat,∀ c∈cI k n,¬c=32/\¬c=10:=fun n k c hc=>by
  have:=nJ k n c hc;exact oo
 rcases nt i 0 with hi|hi
 ·obtain⟨n,rfl⟩:∃ n:Nat,i = -((n+1:Nat):Int):=⟨(-i).toNat-1,oo⟩
  rw[lu oo];refine⟨fun z=>?_,fun z=>?_,fun z=>by cases z⟩
  ·rcases av.mp z with z|z
   ·exact absurd z odz
   exact(key _ _ _ z).1 rfl
  rcases av.mp z with z|z
  ·exact absurd z odz
  exact(key _ _ _ z).2 rfl
 obtain⟨n,rfl⟩:∃ n:Nat,i=(n:Int):=⟨i.toNat,oo⟩
 rw[iz oo];refine⟨fun z=>(key _ _ _ z).1 rfl,fun z=>(key _ _ _ z).2 rfl,fun z=>?_⟩;have:(32:Nat)∈cI 29 n:=List.mem_of_head? z;exact(key _ _ _ this).1 rfl
theorem Ah(h:Pc kd):32∉kd.cps.toList/\10∉kd.cps.toList/\∃ c,kd.cps.toList.head?=some c/\¬c=32:=by
 rcases h with z|z|z|z|z|z<;>rw[z]
 ·exact⟨dk,dk,116,dk,odz⟩
 ·exact⟨dk,dk,103,dk,odz⟩
 ·exact⟨dk,dk,108,dk,odz⟩
 ·exact⟨dk,dk,108,dk,odz⟩
 ·exact⟨dk,dk,119,dk,odz⟩
 exact⟨dk,dk,97,dk,odz⟩
theorem xW{x:Pl} (h:x.kd="lost"):c7 x=x.kd++" "++(wrT x.tr++jt (x.num%4)++wrT x.ot):=by
 unfold c7;rw[bq (by rw[h];decide +kernel),b6 h,h,show("lost ":Str)="lost" ++ " " by decide +kernel,uf ("lost" ++ " "++wrT x.tr),uf ("lost" ++ " "),uf (wrT x.tr)]
theorem ug{x:Pl} (h:x.kd="take"\/x.kd="lean"):c7 x=x.kd++" "++(eN x.num++" "++wrT x.tr):=by
 unfold c7;rw[b6 h,uf,uf (x.kd++" ")]
 congr 1
 rw[uf]
theorem vd(hN:gi ns){x:Pl}(h:ll ns x):Clean (c7 x):=by
 obtain⟨k1,k2,k3⟩:=Ah (gK h.vb);obtain⟨n1,n2,n3⟩:=u9 h.nb.oq.1 h.nb.oq.2;have hw:=lw (iC hN h.tr.nm)
 by_cases hk:x.kd="take"\/x.kd="lean"
 ·rw [ug hk]
  refine iJ k2 k3 (iJ n2 ?_ hw);cases hq:(eN x.num).cps.toList with
  | nil =>
   have:(eN x.num).cps.toList≠[]:=by
    rcases nt x.num 0 with hi|hi
    ·obtain⟨n,e⟩:∃ n:Nat,x.num = -((n+1:Nat):Int):=⟨(-x.num).toNat-1,oo⟩
     have:=h.nb.oq;rw[e,lu oo];exact eA _ _
    obtain⟨n,e⟩:∃ n:Nat,x.num=(n:Int):=⟨x.num.toNat,oo⟩
    have:=h.nb.oq;rw[e,iz oo];have:=(iy 29 n).1;intro z;have z:cI 29 n=[]:=z;rw[z]at this;exact absurd this odz
   exact absurd hq this
  | cons c r =>
   refine⟨c,Z,fun z=>n3 ?_⟩;rw[hq,z]
   rfl
 by_cases h2:x.kd="lost"
 ·rw[xW h2]
  exact iJ k2 k3 (sZ hw (lw (iC hN h.ot.nm)) _)
 unfold c7;rw[bq hk,bq h2]
 split
 ·rename_i h3
  exact⟨dk,⟨119,dk,odz⟩,⟨115,dk,odz⟩⟩
 exact iJ k2 k3 hw
theorem Ji(hN:gi ns){x:Pl}(h:ll ns x)(i:Nat):Ca (i,c7 x) (lY x):=by
 obtain⟨k1,k2,k3⟩:=Ah (gK h.vb);obtain⟨n1,n2,n3⟩:=u9 h.nb.oq.1 h.nb.oq.2;have ow:=iC hN h.tr.nm;have hw:=lw ow;have hl:=rC hN h;have hwl:=j4 hN h.tr;rw[lF]at hwl;have MH:JY (wrT x.tr) x.tr:=Ac ow (by have:=h.tr.dp;exact oo) oo;have hlen:(c7 x).length <= gj:=fA hl odz;refine⟨hlen,?_⟩;show cG (c7 x)=x.kd/\∃(O:Str->Option (V×List Str)) (ss:List Str),iW x.kd=some O/\O (bJ (c7 x))=some ((if x.kd="take"\/x.kd="lean" then .int x.num else .non),ss)/\Paired JY ss (fC x)/\ss.length<=10
 by_cases hk:x.kd="take"\/x.kd="lean"
 ·have hv : ¬(eN x.num++" "++wrT x.tr:Str).cps.toList.head?=some 32:=by
   rw[bT,bT];cases hq:(eN x.num).cps.toList with
   | nil => rw[t7];intro z;exact absurd hq (by
     intro z2;have c:=vd hN h;rw[ug hk]at c;have:=c.la;rcases nt x.num 0 with hi|hi
     ·obtain⟨n,e⟩:∃ n:Nat,x.num = -((n+1:Nat):Int):=⟨(-x.num).toNat-1,oo⟩
      have:=h.nb.oq;rw[e,lu oo]at z2;cases z2
     obtain⟨n,e⟩:∃ n:Nat,x.num=(n:Int):=⟨x.num.toNat,oo⟩
     have:=h.nb.oq;rw[e,iz oo]at z2;have:=(iy 29 n).1;have z2:cI 29 n=[]:=z2;rw[z2]at this
     exact absurd this odz)
   | cons c r =>
    intro z;have z:some c=some 32:=z;exact n3 (by rw[hq];exact z)
  have et:fC x=[x.tr]:=by
   unfold fC;rw[bq (by rcases hk with e|e<;>rw[e]<;>decide +kernel),bq (by rcases hk with e|e<;>rw[e]<;>decide +kernel)]
  rw[ug hk,(iZ k1 hv).1,(iZ k1 hv).2,b6 hk,et];refine⟨Z,?_⟩;have f1:=(iZ n1 hw.rV).1;have f2:=(iZ n1 hw.rV).2;rcases hk with e|e
  ·refine⟨sG,[wrT x.tr],by rw[e];exact FZ,?_,.cons MH .nil,HE rfl⟩
   unfold sG;rw[f1,f2]
   obtain⟨n,hn⟩:∃ n:Nat,x.num=(n:Int):=by
    rcases h.nb with⟨z,_⟩|⟨_,h0,_⟩
    ·rw[e]at z;exact absurd z dk
    exact⟨x.num.toNat,oo⟩
   have AI:0<n/\n<10^30:=by
    rcases h.nb with⟨z,_⟩|⟨_,h0,h1⟩
    ·rw[e]at z;exact absurd z dk
    exact oo
   rw[hn,Fw AI.1 AI.2]
   rfl
  refine⟨sH,[wrT x.tr],by rw[e];exact Ga,?_,.cons MH .nil,HE rfl⟩;unfold sH;rw[f1,f2,Fx h.nb.oq.1 h.nb.oq.2]
  rfl
 by_cases h2:x.kd="lost"
 ·have MZ:=iC hN h.ot.nm
  have RN:=lw MZ;have RM:=j4 hN h.ot;rw[lF]at RM;have RX:JY (wrT x.ot) x.ot:=Ac MZ (by have:=h.ot.dp;exact oo) oo;have hc:=sZ hw RN (x.num%4);have et:fC x=[x.tr,x.ot]:=b6 h2;rw[xW h2,(iZ k1 hc.rV).1,(iZ k1 hc.rV).2,bq hk,et];exact⟨Z,nG,[wrT x.tr,wrT x.ot],by rw[h2];exact Gd,Cv hw RN (fun z=>(rn (jr ow 58 z)).2.1 rfl) _,.cons MH (.cons RX .nil),HE rfl⟩
 by_cases h3:x.kd="worlds"
 ·have er:c7 x=x.kd:=by
   unfold c7;rw[bq hk,bq h2,b6 h3,h3]
  have et:fC x=[]:=by
   unfold fC;rw[bq h2,b6 h3]
  rw[er,(Fq k1).1,(Fq k1).2,bq hk,et];exact⟨Z,sE,[],by rw[h3];exact yx,b6 rfl,.nil,mf _⟩
 have er:c7 x=x.kd++" "++wrT x.tr:=by
  unfold c7;rw[bq hk,bq h2,bq h3]
 have et:fC x=[x.tr]:=by
  unfold fC;rw[bq h2,bq h3]
 rw[er,(iZ k1 hw.rV).1,(iZ k1 hw.rV).2,bq hk,et];refine⟨Z,vN,[wrT x.tr],Gb ?_,Z,.cons MH .nil,HE rfl⟩;rcases gK h.vb with e|e|e|e|e|e
 ·exact absurd (.inl e) hk
 ·exact .inl e
 ·exact absurd (.inr e) hk
 ·exact absurd e h2
 ·exact absurd e h3
 exact .inr e
theorem tu{n:Str}(h:isName n=true):Clean n:=lw (tr:=.nm n) fun x hx=>by
 rw[ar.mp hx];exact h
theorem nT:∀{ns:List Str},ns≠[]->(∀ n∈ns,isName n=true)->Clean (Txt.join " " ns)
 |[],h,_=>absurd rfl h
 | [n],_,h=>by
  have e:Txt.join " " [n]=n:=gL _ _;rw[e];exact tu (h n qms)
 | n::m::r,_,h=>by
  have ih:=nT (ns:=m::r) (eA _ _) fun x hx=>h x (k8 _ hx)
  have e1:Txt.join " " (n::m::r)=Str.join " " (n::m::r):=gL _ _;have e2:Txt.join " " (m::r)=Str.join " " (m::r):=gL _ _;rw[e2]at ih;rw[e1];have hc:=tu (h n qms);exact iJ hc.nl hc.hd ih
theorem k9:32∉("names":Str).cps.toList/\10∉("names":Str).cps.toList/\∃ c,("names":Str).cps.toList.head?=some c/\¬c=32:=⟨dk,dk,110,dk,odz⟩
theorem Ge(ic:ns.Nodup){n:Str}(h:n∈ns):(ns.map V.str).countP (fun z=>l9 z (.str n))=1:=by
 induction ns with
 |nil=>cases h
 | cons m r ih =>
  rw[eR]at ic;rw[b3,fi];have key:∀ a b:Str,l9 (.str a) (.str b)=decide (a=b):=fun a b=>rfl
  rcases av.mp h with e|h
  ·subst e
   have:(r.map V.str).countP (fun z=>l9 z (.str n))=0:=by
    rw[List.countP_eq_zero];intro z hz;obtain⟨w,hw,rfl⟩:=ck.mp hz;rw[key,gp (show ¬w=n from fun e=>ic.1 (by rw[<- e];exact hw))]
    decide
   rw[this,key,cS rfl]
   rfl
  rw[ih ic.2 h,key,gp (show ¬m=n from fun e=>ic.1 (by rw[e];exact h))]
  rfl
theorem Ln(hN:gi ns)(h1:1<=ns.length)(h8:ns.length<=8):fO ns=true:=by
 unfold fO;rw[cS (show(1:Int)<=(ns.length:Int)by omega),cS (show(ns.length:Int)<=8 by omega)];show(ns.all _)=true;rw[cm];intro n hn;rw[lL (hN.nm n hn),cS (Ge hN.nd hn)]
 rfl
def di(ns:List Str)(x:Pl)(rs:List Int):List Int :=
 if x.kd="take" then g8 ns x.tr rs x.num else if x.kd="give" then dh ns x.tr rs else match aN (sel rs (aC ns x.tr)),aN (sel rs (aP ns x.tr))with
  |some a,some b=>fc rs (aC ns x.tr) a b x.num
  |_,_=>rs
def isD(x:Pl):Bool:=decide (x.kd="take"\/x.kd="give"\/x.kd="lean")
def ju(ns:List Str)(x:Pl)(rs:List Int):Str:=if x.kd="ask" then pK rs ns x.tr else if x.kd="lost" then nR ns rs x.tr x.ot else jZ ns.length rs
def gM(ns:List Str):List Pl->List Int->List (List Int)
 |[],_=>[]
 |x::r,rs=>if isD x=true then di ns x rs::gM ns r (di ns x rs)else gM ns r rs
def iD(ns:List Str):List Pl->List Int->List Str
 |[],_=>[]
 |x::r,rs=>if isD x=true then iD ns r (di ns x rs)else ju ns x rs::iD ns r rs
def xX(kd:Str)(L:gR):Prop:=(kd="ask"/\L=Io)\/(kd="lost"/\L=Cj)\/(kd="worlds"/\L=ue)
theorem xY{x:Pl}(h:ll ns x)(hk:isD x=false):(x.kd="lost"/\aP ns x.tr≠cu ns.length)\/x.kd="worlds"\/x.kd="ask":=by
 have hk:=of_decide_eq_false hk;rcases h.vb with⟨e,_⟩|⟨e,_⟩|⟨e,_⟩|e|e|e
 ·exact absurd (.inl e) hk
 ·exact absurd (.inr (.inl e)) hk
 ·exact absurd (.inr (.inr e)) hk
 ·exact .inl e
 ·exact .inr (.inl e)
 exact .inr (.inr e)
theorem vf{x:Pl}(h:ll ns x)(hM:eC ns rs)(hk:isD x=true)(hB:tT B rs): sU x.kd ns rs (if x.kd="take"\/x.kd="lean" then .int x.num else .non) (fC x) (di ns x rs)/\eC ns (di ns x rs)/\tT (B+10^31) (di ns x rs):=by
 have hr:=h.nb.oq;have D0:(0:Int)<=10^31:=by decide
 have n1:x.num<=10^31:=oo
 have n2 : -x.num<=10^31:=oo
 have hk:=en hk
 have et:fC x=[x.tr]:=by
  unfold fC;rw[bq (by rcases hk with e|e|e<;>rw[e]<;>decide +kernel),bq (by rcases hk with e|e|e<;>rw[e]<;>decide +kernel)]
 rw[et];unfold di;rcases h.vb with⟨e,h0⟩|⟨e,h0⟩|⟨e,h0,h1⟩|⟨e,_⟩|e|e
 ·rw[b6 e,b6 (.inl e)]
  obtain⟨y,hy⟩:=nP hM h0;exact⟨.inl ⟨e,x.num,x.tr,Z,Z,Z,.inr ⟨y,hy⟩⟩,hM.LM _ _,Hy hM D0 n1 n2 hB⟩
 ·have e1:¬x.kd="take":=by rw[e];decide +kernel
  rw[bq e1,b6 e,bq (fun z=>by rcases z with z|z<;>rw[e]at z<;>exact absurd z dk)];obtain⟨y,hy⟩:=lQ hM h0;exact⟨.inr (.inl ⟨e,x.tr,Z,Z,y,hy⟩),hM.AU _,Hx hM D0 hB⟩
 ·have e1:¬x.kd="take":=by rw[e];decide +kernel
  have e2:¬x.kd="give":=by rw[e];decide +kernel
  rw[bq e1,bq e2,b6 (.inr e)];obtain⟨a,ha⟩:=lQ hM h1;obtain⟨b,hb⟩:=nP hM h0;rw[ha,hb];have h2:lj ns x.tr rs a b:=⟨hM.len,ha,hb⟩
  exact⟨.inr (.inr ⟨e,x.num,x.tr,a,b,Z,Z,ha,hb,Z⟩),eC.x9 h2 _,qU (gH hM ha) (gH hM hb) D0 n1 n2 hB⟩
 ·rw[e]at hk
  exact absurd hk dk
 ·rw[e]at hk
  exact absurd hk dk
 rw[e]at hk;exact absurd hk dk
theorem Gf(hM:eC ns rs)(hB:tT B rs)(QP:B<=10^40)(tr:Tr):∀ m y,aN (sel rs (aC ns tr))=some m->aN (sel rs (aP ns tr))=some y->(m-y).natAbs.log2<1920:=fun m y hm hy=>by
 have m0:=gH hM hm;have y0:=gH hM hy;have m1:=hB m (gP (bf hm).1);have y1:=hB y (gP (bf hy).1)
 by_cases hz:(m-y).natAbs=0
 ·rw[hz];decide
 refine(Nat.log2_lt hz).mpr ?_;have:(m-y).natAbs <= 10^40:=oo
 exact kM this odz
theorem Jj(hN:gi ns)(h8:ns.length<=8)(h:xk ns tr):EG tr/\∀ x∈tr.names,x∈ns :=
 ⟨⟨fA h.sz odz,fA h.dp odz,⟨ns,oo,h.nm⟩,fun x hx=>mx.small (hN.nm x (h.nm x hx))⟩,h.nm⟩
theorem uh{ns:List Str}(hN:gi ns)(h8:ns.length<=8):∀(eB:List Pl)(rs:List Int)(B:Int),(∀ x∈eB,ll ns x)->eC ns rs->tT B rs->0<=B->B+(eB.length:Int)*10^31<=10^40->Runs xX ns (eB.map lY) rs (gM ns eB rs) (iD ns eB rs)
 |[],rs,B,_,_,_,_,_=>.nil rs
 | x::r,rs,B,hok,hM,hB,h0,QP=>by
  have hx:=hok x qms;have D5:∀ y∈r,ll ns y:=fun y hy=>hok y (k8 _ hy)
  rw[bp,Bz,Int.add_mul]at QP
  have hT:∀ u∈fC x,EG u/\∀ y∈u.names,y∈ns:=fun u hu=>by
   unfold fC at hu
   split at hu
   ·rcases av.mp hu with e|hu
    ·rw[e];exact Jj hN h8 hx.tr
    rw[ar.mp hu];exact Jj hN h8 hx.ot
   split at hu
   ·cases hu
   rw[ar.mp hu];exact Jj hN h8 hx.tr
  have UZ:(0:Int)<=10^31:=by decide
  have IL:(0:Int)<=(r.length:Int)*10^31:=Int.mul_nonneg oo UZ;cases hk:isD x with
  | false =>
   have ih:=uh hN h8 r rs B D5 hM hB h0 oo;show Runs xX ns (lY x::r.map lY) rs (if isD x=true then _ else gM ns r rs) (if isD x=true then _ else ju ns x rs::iD ns r rs);rw[hk,bq gc,bq gc];rcases xY hx hk with⟨e,h2⟩|e|e
   ·obtain⟨y,hy⟩:=lQ hM h2
    have et:fC x=[x.tr,x.ot]:=b6 e
    have ea:ju ns x rs=nR ns rs x.tr x.ot:=by
     unfold ju;rw[bq (by rw[e];decide +kernel),b6 e]
    refine .OZ (L:=Cj) hT (.inr (.inl ⟨e,rfl⟩)) ⟨x.tr,x.ot,y,et,hy,ea⟩ ih
   ·have ea:ju ns x rs=jZ ns.length rs:=by
     unfold ju;rw[bq (by rw[e];decide +kernel),bq (by rw[e];decide +kernel)]
    exact .OZ (L:=ue) hT (.inr (.inr ⟨e,rfl⟩)) ea ih
   have et:fC x=[x.tr]:=by
    unfold fC;rw[bq (by rw[e];decide +kernel),bq (by rw[e];decide +kernel)]
   have ea:ju ns x rs=pK rs ns x.tr:=b6 e;exact .OZ (L:=Io) hT (.inl ⟨e,rfl⟩) ⟨x.tr,et,ea,Gf hM hB oo _⟩ ih
  | true =>
   obtain⟨hD,hM',SR⟩:=vf hx hM hk hB;have ih:=uh hN h8 r (di ns x rs) (B+10^31) D5 hM' SR oo oo;show Runs xX ns (lY x::r.map lY) rs (if isD x=true then di ns x rs::gM ns r (di ns x rs)else _) (if isD x=true then iD ns r (di ns x rs)else _);rw[hk,b6 rfl,b6 rfl];exact .deed hT hD hM' ih
theorem tD{ns:List Str}(hN:gi ns):∀(eB:List Pl)(k:Nat),(∀ x∈eB,ll ns x)->Paired Ca (((eB.map c7).zipIdx k).map fun(x:Str×Nat)=>(x.2,x.1)) (eB.map lY)
 |[],_,_=>.nil
 |x::r,k,h=>.cons (Ji hN (h x qms) k) (tD hN r (k+1) fun y hy=>h y (k8 _ hy))
theorem Gg(hN:gi ns)(h1:1<=ns.length){eB:List Pl}(hok:∀ x∈eB,ll ns x):qb (lR ns eB)=(0,("names" ++ " "++Txt.join " " ns)):: (((eB.map c7).zipIdx 1).map fun(x:Str×Nat)=>(x.2,x.1)):=by
 have P_:∀ n∈ns,isName n=true:=fun n hn=>lL (hN.nm n hn)
 have g7:ns≠[]:=fun z=>by rw[z]at h1;exact absurd h1 odz
 unfold lR;rw[K7 (eA _ _) fun p hp=>?_]
 ·rfl
 rcases av.mp hp with rfl|hp
 ·exact iJ k9.2.1 k9.2.2 (nT g7 P_)
 obtain⟨x,hx,rfl⟩:=ck.mp hp;exact vd hN (hok x hx)
theorem Gh(hN:gi ns)(h1:1<=ns.length)(h8:ns.length<=8){eB:List Pl}(hok:∀ x∈eB,ll ns x)(NS:eB.length<=90): ∃(r0:Str) (rest:List (Nat×Str)),(lR ns eB).length <= gj/\qb (lR ns eB)=(0,r0):: rest/\r0.length<=gj/\cG r0="names"/\fO (dw (bJ r0))=true/\dw (bJ r0)=ns/\rest.length<=300/\Paired Ca rest (eB.map lY)/\Runs xX ns (eB.map lY) (cD ns) (gM ns eB (cD ns)) (iD ns eB (cD ns)):=by
 have P_:∀ n∈ns,isName n=true:=fun n hn=>lL (hN.nm n hn)
 have g7:ns≠[]:=fun z=>by rw[z]at h1;exact absurd h1 odz
 have hj:=nT g7 P_;obtain⟨f1,f2⟩:=iZ k9.1 hj.rV;have hw:=words_of g7 P_;obtain⟨n1,n2⟩:=u6 hN h8;have l5:("names":Str).length=5:=by decide +kernel
 have l1:(" ":Str).length=1:=by decide +kernel
 have lr:("names" ++ " "++Txt.join " " ns:Str).length <= 210:=by
  rw[ai,ai];exact oo
 have hlen:(lR ns eB).length <= gj:=by
  unfold lR;refine fA (xT _ _) ?_
  have hs:=xU (ys:=("names" ++ " "++Txt.join " " ns):: eB.map c7) (m:=210) fun y hy=>by
   rcases av.mp hy with rfl|hy
   ·exact lr
   obtain⟨x,hx,rfl⟩:=ck.mp hy;exact rC hN (hok x hx)
  have ln:("\n":Str).length=1:=by decide +kernel
  rw[bp,dS]at hs ⊢;rw[ln];have:(eB.length+1)*210<=91*210:=gx _ oo;have hm:20000<=gj:=by decide
  exact oo
 refine⟨_,_,hlen,Gg hN h1 hok,fA lr odz,f1,?_,?_,?_,tD hN eB 1 hok,?_⟩
 ·rw[f2,hw]
  exact Ln hN h1 h8
 ·rw[f2,hw]
 ·rw[dS,List.length_zipIdx,dS]
  exact oo
 refine uh hN h8 eB (cD ns) 0 hok (pL ns) (fun z hz=>by rw[(fk.mp hz).2];decide) (Int.le_refl 0) ?_;have:(eB.length:Int)*10^31<=90*10^31:=xw oo odz;have e:(90:Int)*10^31<=10^40:=by decide
 exact oo
inductive spLaw(K:W.Frag)(vs:List V)(H:Hp)(Q:VK)(E:XK):Prop
 |mk(a:Addr)(ns:List Int)(_:vs=[.ref a])(_:SqL K H a (ns.map V.int))(_:ns.length<=63)(_:∀ H',Q (.bl true) H')
inductive vT(vs:List V)(H:Hp)(Q:VK)(E:XK):Prop
 |mk(q al ml:Addr)(xs:List Str)(ms:List V)(a d:Int)(_:vs=[.ref q,.int a,.int d])(_:H q=some (.tup [.ref al,.ref ml]))(_:H al=some (.lst (xs.map V.str)))(_:H ml=some (.lst ms))(_:a=(xs.length:Int))(_:d=(ms.length:Int))(_:Q (.bl true) H)
theorem rD(ns:List Str):∀(eB:List Pl)(rs:List Int),(iD ns eB rs).length+(eB.filter isD).length=eB.length
 |[],_=>rfl
 | x::r,rs=>by
  show(if isD x=true then iD ns r (di ns x rs)else ju ns x rs::iD ns r rs).length+_=_;cases h:isD x with
  | true =>
   rw[b6 rfl,da h];have:=rD ns r (di ns x rs);simp only[bp];exact oo
  | false =>
   rw[bq gc,de (by rw[h];decide)];have:=rD ns r rs;simp only[bp];exact oo
theorem rE(ns:List Str):∀(eB:List Pl)(rs:List Int),(gM ns eB rs).length=(eB.filter isD).length
 |[],_=>rfl
 | x::r,rs=>by
  show(if isD x=true then di ns x rs::gM ns r (di ns x rs)else gM ns r rs).length=_;cases h:isD x with
  | true =>
   rw[b6 rfl,da h];exact bP (· + 1) (rE ns r (di ns x rs))
  | false =>
   rw[bq gc,de (by rw[h];decide)];exact rE ns r rs
inductive GW(vs:List V)(H:Hp)(Q:VK)(E:XK):Prop
 |mk(a p r:Addr)(v:V)(ns:List Str)(rs:List Int)(x:Pl)(B:Int)(_:vs=[.ref a,v,.str (ju ns x rs)])(_:cb H a p r rs)(_:H p=some (.tup (ns.map V.str)))(_:ns.length<=8)(_:eC ns rs)(_:tT B rs)(_:B<=10^40)(_:hJ H v x)(_:ll ns x)(_:isD x=false)(_:∀ H',aT H H'->Q (.bl true) H')
theorem Cw(T:Txt P w K mg t):FM P w base T.q108 1 vT:=by
 refine T.q108.F.eK (N:=["_law_found","_law_answers","_law_deeds","_law_line"]) eo ?_;rintro nd _ _ _ _ H _ _ _ hr ⟨q,al,ml,xs,ms,a,d,rfl,hq,oS,qk,ea,ed,k⟩
 refine ⟨_,(ao (aR (PW.pt (eX (cP (bV (aZ fZ T.zq Bt.isinstance (aa (af 0) (aa (jO (v:=.ty "tuple") T.zn Bt.tuple rfl) aj))))) (eX (aF gZ (aZ aW T.zd Bt.len (aa (af 0) aj)) ak (aH _)) (eX (cP (bV (aZ fZ T.zq Bt.isinstance (aa (cy aJ (af 0) ak) (aa (jO (v:=.ty "list") T.zM Bt.list rfl) aj))))) (gk (aF gZ (aZ aW T.zd Bt.len (aa (cy aJ (af 0) ak) aj)) (af 1) (aH _)))))))
    (aq (aA eU))
    aO)
   (ao (dX i7 rfl (cJ (cy aJ (af 0) ak)) (g6 3 nd)
    (aq (aR (cP (bV (aZ fZ T.zq Bt.isinstance (aa (af 3) (aa (jO (v:=.ty "str") T.zt Bt.str rfl) aj)))))
     (aq (aA eU))
     aO)))
   (aq (aA (oh (aZ fZ T.zq Bt.isinstance (aa (cy aJ (af 0) ak) (aa (jO (v:=.ty "list") T.zM Bt.list rfl) aj))) (lZ (b8 aU (aZ aW T.zd Bt.len (aa (cy aJ (af 0) ak) aj)) (af 2) (aH _)))))))),?_⟩
 refine⟨_,Z,_,_,_,_,true,Z,Z,.tup hq,Z,_,Z,bu ?_⟩;refine⟨_,Z,q,_,Z,.inr (SqT.of hq),Z,_,Z,aQ (fun c=>absurd c (by rw[cS (show V.int (([V.ref al,V.ref ml].length:Nat):Int)=V.int 2 from rfl)];decide)) (fun _=>?_)⟩;refine⟨_,Z,q,_,0,_,Z,Z,SqT.of hq,Z,_,_,_,_,true,Z,Z,.lst oS,Z,_,Z,bu ?_⟩;refine⟨_,Z,q,_,0,_,Z,Z,SqT.of hq,Z,al,_,Z,.inl (SqL.of oS),_,Z,Z,_,Z,aQ (fun c=>absurd c (by rw[cS (show V.int (((xs.map V.str).length:Nat):Int)=V.int a by rw[dS,ea])];decide)) (fun _=>?_)⟩;refine⟨_,Z,q,_,0,_,Z,Z,SqT.of hq,Z,al,Z,⟨_,SqL.of oS⟩,fW (K:=K) (a:=al) (xs:=xs.map V.str) (fun i σ H'=>∃ o:Option V,σ=[some (.ref q),some (.int a),some (.int d),o]/\H'=H) ⟨none,Z,Z⟩ (fun i σ H' _ ⟨_,_,e⟩=>by subst e;exact SqL.of oS) ?_ ?_⟩
 ·rintro i y σ H' hi ⟨o,rfl,e⟩
  have e:=e.symm;subst e;rw[kT]at hi
  obtain⟨c,hc,rfl⟩:∃ c,xs[i]?=some c/\y=V.str c:=by
   cases q:xs[i]? with
   |none=>rw[q]at hi;cases hi
   |some c=>rw[q]at hi;exact⟨c,Z,(iE hi).symm⟩
  refine⟨_,Z,_,_,_,_,true,Z,Z,.str _,Z,_,Z,bu ?_⟩;exact⟨_,Z,Z⟩
 rintro σ H' ⟨o,rfl,e⟩;have e:=e.symm;subst e;refine⟨_,Z,q,_,1,_,Z,Z,SqT.of hq,Z,_,_,_,_,true,Z,Z,.lst qk,Z,_,Z,?_⟩;rw[b6 rfl];refine⟨_,Z,q,_,1,_,Z,Z,SqT.of hq,Z,ml,_,Z,.inl (SqL.of qk),_,Z,Z,?_⟩
 try dsimp -proj -iota only
 rw[cS (show V.int ((ms.length:Nat):Int)=V.int d by rw[ed])];exact k
theorem N7:b_ ["_law_mind","_law_plan","_law_answer"] ["_law_mind","_law_plan","_law_answer"] (aV Hj):=eo
theorem Lp(T:Txt P w K mg t):FM P w base T.q114 9 GW:=by
 refine T.q114.F.eK (k:=8) N7 ?_;rintro nd _ _ _ _ H _ _ _ hr ⟨a,p,r,v,ns,rs,⟨kd,num,tr,ot⟩,B,rfl,hm,hp,h8,hM,hB,QP,⟨q,vt,vo,pa,i,rfl,hq,ht,AE⟩,hok,ic,k⟩
 refine⟨_,(ao (aR (aF aU (cy aJ (af 1) ak) az (aH _))
    (aq (aA (b8 aU (af 2) (dn T.q111 (NQ T) hr aM (aa (af 0) aj)) (aH _))))
    aO)
   (ao (aR (aF aU (cy aJ (af 1) ak) az (aH _))
    (aq (aA (dn T.q112 (Lg T) hr aM (aa (af 0) (aa (cy aJ (af 1) ak) (aa (af 2) aj))))))
    aO)
   (aq (aA (dn T.q113 (Jd T) hr aM (aa (af 0) (aa (cy aJ (af 1) ak) (aa (cy aJ (af 1) ak) (aa (af 2) aj))))))))),?_⟩
 have hq:H q=some (.tup [.str kd,.int num,vt,vo,.int i,pa]):=hq;rcases xY hok ic with⟨e,h2⟩|e|e
 ·have e:kd="lost":=e
  subst e;obtain⟨x,hx⟩:=lQ hM h2;refine⟨_,Z,q,_,0,_,Z,Z,SqT.of hq,Z,Z,_,Z,aQ (fun z=>absurd (V.str.inj (en z)) dk) (fun _=>?_)⟩;refine⟨_,Z,q,_,0,_,Z,Z,SqT.of hq,Z,Z,_,Z,aQ (fun z=>absurd (V.str.inj (en z)) dk) (fun _=>?_)⟩;exact⟨_,Z,_,Z,q,_,2,vt,Z,Z,SqT.of hq,Z,_,Z,q,_,3,vo,Z,Z,SqT.of hq,Z,_,Z,a,p,r,vt,vo,ns,rs,tr,ot,x,Z,hm,hM,hp,h8,ht,AE,fA hok.tr.dp odz,fA hok.ot.dp odz,hok.tr.nm,hok.ot.nm,hx,k⟩
 ·have e:kd="worlds":=e
  subst e;refine⟨_,Z,q,_,0,_,Z,Z,SqT.of hq,Z,Z,_,Z,aQ (fun _=>?_) (fun z=>absurd (cS rfl) z)⟩;refine⟨_,Z,_,Z,a,p,r,ns,rs,Z,hm,hp,h8,fun H1 s1=>⟨Z,?_⟩⟩
  try dsimp -proj -iota only
  rw[iK _ (show ju ns ⟨"worlds",num,tr,ot⟩ rs=jZ ns.length rs from rfl)];exact k _ s1
 have e:kd="ask":=e;subst e;refine⟨_,Z,q,_,0,_,Z,Z,SqT.of hq,Z,Z,_,Z,aQ (fun z=>absurd (V.str.inj (en z)) dk) (fun _=>?_)⟩;refine⟨_,Z,q,_,0,_,Z,Z,SqT.of hq,Z,Z,_,Z,aQ (fun _=>?_) (fun z=>absurd (cS rfl) z)⟩;exact⟨_,Z,_,Z,q,_,2,vt,Z,Z,SqT.of hq,Z,_,Z,a,p,r,vt,ns,rs,tr,Z,hm,hM,hp,h8,ht,fA hok.tr.dp odz,hok.tr.nm,Gf hM hB QP tr,k⟩
theorem Jk(ns:List Int)(lo hi:Option Int):∃ cs:List Int,ir (ns.map V.int) lo hi=cs.map V.int/\cs.length<=ns.length:=by
 refine⟨(ns.drop (HT.fb (ns.map V.int).length 0 lo)).take (HT.fb (ns.map V.int).length (ns.map V.int).length hi-HT.fb (ns.map V.int).length 0 lo),?_,?_⟩
 ·unfold ir
  rw[List.map_take,List.map_drop]
 rw[bE,dA];exact oo
theorem N8(T:Txt P w K mg t):vO P w K mg base t xX:=fun kd L h=>by
 rcases h with⟨rfl,rfl⟩|⟨rfl,rfl⟩|⟨rfl,rfl⟩
 ·exact⟨dk,dk,dk,t.QZ,t.Yr,kr,K3 T,T.q83.k,T.q83.b⟩
 ·exact⟨dk,dk,dk,t.QY,t.Yq,kr,Ck T,T.q84.k,T.q84.b⟩
 exact⟨dk,dk,dk,t.QX,t.Yp,kr,FP T,T.q85.k,T.q85.b⟩
theorem Pq:b_ ["_law_script","_law_names","_law_plans","_law_deeds","_law_found","_law_mind","_law_at","_law_spot","_law_plan"] ["_law_script"] (aV Hk):=eo
theorem ok_law(T:Txt P w K mg t):FM P w base T.q115 127 (spLaw K):=by
 have G90:=Nz (base:=base) T (N8 T);refine T.q115.F.eK (k:=126) Pq ?_;rintro nd _ _ _ _ _ _ _ _ hr ⟨a,cs,rfl,hS,hlen,k⟩
 refine ⟨_,(ao (eT 1 nd (dn T.q109 (Hw T) hr aM (aa (af 0) aj)))
   (ao (eT 2 nd (dn T.q105 (Jf T) hr aM (aa (af 1) (aa (ik tH (af 0) (iG ak) (iG ak)) aj))))
   (ao (eT 3 nd (aZ aW T.zd Bt.len (aa (bW rfl ["_law_plan"] [none] (cJ (af 2)) kr (fun _ _ _ _ _ _=>(g6 0 (kF (l:=["_law_plan"])))) (fun _ _ _ _ _ _=>gr (aF (Bd (K:=K)) (cy (jX (K:=K)) (af 0) ak) (bj (aa az (aa az (aa az aj)))) ou)) (fun _ _ _ _ _ _=>(af 0))) aj)))
   (ao (eT 4 nd (dn T.q90 G90 hr aM (aa (dn T.q107 (FW T) hr aM (aa (af 1) (aa (af 2) aj))) aj)))
   (ao (aR (cP (bV (dn T.q108 (Cw T) hr aM (aa (af 4) (aa (aD cW (aZ aW T.zd Bt.len (aa (af 2) aj)) (af 3)) (aa (af 3) aj))))))
    (aq (aA eU))
    aO)
   (ao (eT 5 nd (bj (aa (af 1) (aa (dj dC T.zn Bt.tuple (aa (bW rfl ["_law_world"] [none] (gw T.zp (aa (aD gm ak (aZ aW T.zd Bt.len (aa (af 1) aj))) aj)) kr (fun _ _ _ _ _ _=>(g6 0 (kF (l:=["_law_world"])))) (fun _ _ _ _ _ _=>cM) (fun _ _ _ _ _ _=>ak)) aj)) aj))))
   (ao (eT 6 nd ak)
   (ao (eT 7 nd ak)
   (ao (dX i7 rfl (cJ (af 2)) (g6 8 nd)
    (aq (aR (aF fQ (cy aJ (af 8) ak) (bj (aa az (aa az (aa az aj)))) ou)
     (ao (eT 5 nd (cy bB (cy aJ (af 4) ak) (af 6)))
     (ao (eT 6 nd (aD cQ (af 6) ak))
     (aq (aR (cP (bV (dn T.q98 (Bx T) hr aM (aa (af 5) (aa (af 1) aj)))))
      (aq (aA eU))
      aO))))
     (ao (aR (cP (bV (dn T.q114 (Lp T) hr aM (aa (af 5) (aa (af 8) (aa (cy bB (cy aJ (af 4) ak) (af 7)) aj))))))
      (aq (aA eU))
      aO)
     (aq (eT 7 nd (aD cQ (af 7) ak)))))))
   (aq (aA eU))))))))))),?_⟩
 refine⟨_,Z,a,cs,Z,hS,fun np ns H1 _H kG h1 h8 hN=>?_⟩;obtain⟨ds,Lc,VG⟩:=Jk cs (some 1) (some 91);refine⟨_,Z,_,Z,_,Z,_,Z,a,_,Z,_H.seq hS,fun ls Qz=>?_⟩;rw[Lc];have j_:=aB (o:=.lst (ds.map V.int)) Qz;refine⟨np,ls,ns,ds,Z,j_ _ _ kG,h1,h8,au,oo,fun pl us eB H3 DI gI hP hok Vn=>?_⟩;have iP:=j_.trans DI;have NS:eB.length<=90:=oo
 have E6:us.length=eB.length:=bg hP;have D6:=iP _ _ kG;refine⟨_,Z,pl,Z,⟨_,SqL.of gI⟩,?_⟩
 refine fU (K:=K) (a:=pl) (xs:=us) (fun i ys H'=>aT H3 H'/\Paired (hJ H') ys ((eB.take i).filter isD)) ⟨aT.refl _,.nil⟩ (lk oo) (fun i ys H' ⟨_,e⟩=>by
  rw[bg e];have:=cn isD (eB.take i);rw[bE]at this
  exact oo) (fun i ys H' ⟨s',_⟩=>SqL.of (s' _ _ gI)) ?_ ?_
 ·rintro i y ys H4 hi ⟨rd,hY⟩
  obtain⟨x,hx,IC⟩:=bN hP i y hi;have RZ:=IC.b9 rd.b9;obtain⟨q,vt,vo,pa,j,rfl,hq,ht,AE⟩:=IC;have hq4:=rd _ _ hq
  have kH:vj (.str x.kd) [V.str "take",V.str "give",V.str "lean"]=isD x:=by
   rcases gK (hok x (qh hx)).vb with z|z|z|z|z|z<;>unfold isD<;>rw[z]<;>decide +kernel
  have et:(eB.take (i+1)).filter isD=(eB.take i).filter isD++(if isD x=true then [x]else []):=by
   rw[pj,hx,cE]
   congr 1
   show List.filter isD [x]=_;cases hz:isD x with
   |true=>rw[da hz];rfl
   |false=>rw[de (by rw[hz];decide)];rfl
  refine⟨trivial,_,Z,q,_,0,.str x.kd,Z,Z,SqT.of hq4,Z,lk obz,fun q1 xC=>⟨q1,_,Z,.inr (SqT.of au),Z,Z,?_⟩⟩;have Kn:=aB (o:=.tup [.str "take",.str "give",.str "lean"]) xC;generalize upd H4 q1 (.tup [.str "take",.str "give",.str "lean"])=H5 at Kn ⊢;rw[bq gc,kH];refine⟨_,Z,aQ (fun z=>?_) (fun z=>?_)⟩
  ·refine⟨_,Z,rd.trans Kn,?_⟩
   rw[et,b6 z];exact dg (Paired.gV hY fun _ _ w=>w.b9 Kn.b9) (.cons (RZ.b9 Kn.b9) .nil)
  refine⟨rd.trans Kn,?_⟩;rw[et,bq z,bX];exact Paired.gV hY fun _ _ w=>w.b9 Kn.b9
 rintro dv H4 ⟨rd,hY⟩ dl NC;rw[E6,bS]at hY;have L0:=rd.trans (aB (o:=.lst dv) NC);have NA:(upd H4 dl (.lst dv)) dl=some (.lst dv):=au;have VM:Paired (hJ (upd H4 dl (.lst dv))) dv (eB.filter isD):=Paired.gV hY fun _ _ w=>w.b9 (aB NC).b9
 generalize upd H4 dl (.lst dv)=H5 at L0 NA VM ⊢;have KL:=rD ns eB (cD ns);have hml0:=rE ns eB (cD ns);have hdvl:dv.length=(eB.filter isD).length:=bg VM;refine⟨dl,_,Z,.inl (SqL.of NA),?_⟩;refine⟨_,Z,_,Z,np,pl,us,eB,ns,Z,L0 _ _ D6,h8,L0 _ _ gI,Paired.gV hP fun _ _ w=>w.b9 L0.b9,hok,hN,NS,fun H6 _G=>?_⟩;obtain⟨r0,rest,f1,f2,f3,f4,f5,f6,f7,f8,f9⟩:=Gh hN h1 h8 hok NS;refine⟨lR ns eB,0,r0,rest,eB.map lY,ns,gM ns eB (cD ns),iD ns eB (cD ns),Z,f1,f2,f3,f4,f5,f6,h1,h8,hN.nd,f7,f8,f9,fun q al ml Rz ms H7 _E hq oS qk IJ IY=>?_⟩;have _F:=_G.trans _E;have PM:=L0.trans _F;have hmsl:ms.length=(gM ns eB (cD ns)).length:=bg IY;refine⟨_,Z,_,Z,pl,_,Z,.inl (SqL.of (PM _ _ gI)),_,Z,_,_,Z,Z,_,Z,q,al,ml,_,ms,_,_,Z,hq,oS,qk,oo,oo,_,Z,bu ?_⟩;have MY:=PM _ _ D6;obtain⟨N,QO⟩:∃ N,N=2^ns.length:=⟨_,rfl⟩
 have mn:N<=256:=QO ▸ cq (n:=2) odz h8;have e1:(1:Int)*2^(((ns.map V.str).length:Nat):Int).toNat=(N:Int):=by rw[dS,bo,QO];simp
 refine⟨_,Z,_,Z,np,_,Z,.inr (SqT.of MY),_,_,Z,Z,⟨by rw[dS];exact oo,by rw[dS];exact oo,odz⟩,?_⟩;refine⟨_,Z,by show -(2^62)<=(1:Int)*2^(((ns.map V.str).length:Nat):Int).toNat;rw[e1];exact oo,by show(1:Int)*2^(((ns.map V.str).length:Nat):Int).toNat<2^62;rw[e1];exact oo,?_⟩
 try dsimp -proj -iota only
 rw[e1,bo];refine cZ (n:=N) (fun _=>.int 0) (lk oo) (fun i R hi r=>⟨trivial,r⟩) (fun lc D8=>?_)
 have er:((List.range N).map fun _=>V.int 0)=(cD ns).map V.int:=by
  unfold cD;rw[<- QO,List.map_const',b5];simp
 rw[er];have u1:=aB (o:=.lst ((cD ns).map V.int)) D8;refine⟨lc,_,Z,.inl ⟨SqL.of au,fun r2 hr2=>⟨lk obz,fun mq hmq=>?_⟩⟩⟩;have u2:=aB (o:=.tup ((cD ns).map V.int)) hr2;have u3:=aB (o:=.tup [.ref np,.ref r2]) hmq;have DF:=(u1.trans u2).trans u3;have Vx:cb (upd (upd (upd H7 lc (.lst ((cD ns).map V.int))) r2 (.tup ((cD ns).map V.int))) mq (.tup [.ref np,.ref r2])) mq np r2 (cD ns):=⟨au,u3 _ _ au,by unfold cD;rw[d_,<- QO];exact mn⟩
 generalize upd (upd (upd H7 lc (.lst ((cD ns).map V.int))) r2 (.tup ((cD ns).map V.int))) mq (.tup [.ref np,.ref r2])=H8 at DF Vx ⊢;have IX:Paired (qd H8 Rz) ms (gM ns eB (cD ns)):=Paired.gV IY fun _ _ ⟨a',r',e,h⟩=>⟨a',r',e,h.same DF⟩
 have MO:=DF _ _ (PM _ _ gI);have hP8:Paired (hJ H8) us eB:=Paired.gV hP fun _ _ w=>w.b9 (PM.trans DF).b9
 have Vm:=DF _ _ hq;have Sb:=DF _ _ qk;have NM:=DF _ _ oS;have MX:=DF _ _ MY;have E_:=DF _ _ IJ;obtain⟨MS,VR⟩:∃ MS,MS=gM ns eB (cD ns):=⟨_,rfl⟩
 obtain⟨XS,VN⟩:∃ XS,XS=iD ns eB (cD ns):=⟨_,rfl⟩
 rw[<- VR]at IX;rw[<- VN]at NM;obtain⟨nD,hnD⟩:∃ nD:Int,((dv.length:Nat):Int)=nD:=⟨_,rfl⟩
 rw[hnD]
 refine⟨_,rfl,pl,rfl,⟨_,SqL.of MO⟩,fW (K:=K) (a:=pl) (xs:=us)
  (fun i σ H'=>∃(o8:Option V)(b nb rb:Addr)(rs:List Int)(at' sp:Nat),σ=[some (.ref a),some (.ref np),some (.ref pl),some (.int nD),some (.ref q),some (.ref b),some (.int at'),some (.int sp),o8]/\aT H8 H'/\cb H' b nb rb rs/\H' nb=some (.tup (ns.map V.str))/\eC ns rs/\tT ((i:Int)*10^31) rs/\gM ns (eB.drop i) rs=MS.drop at'/\iD ns (eB.drop i) rs=XS.drop sp)
  ⟨none,mq,np,r2,cD ns,0,0,rfl,aT.refl _,Vx,MX,pL ns,(fun z hz=>by rw[(fk.mp hz).2];decide),VR.symm,VN.symm⟩ (fun i σ H' _ ⟨_,_,_,_,_,_,_,_,s',_⟩=>SqL.of (s' _ _ MO)) ?_ ?_⟩
 ·rintro i y σ H9 hi ⟨o8,b,nb,rb,rs,at',sp,rfl,Rl,Qx,Vt,hM,hB,E9,E8⟩
  obtain⟨x,hx,IC⟩:=bN hP8 i y hi;have RL:=hok x (qh hx);have Su:i<eB.length:=(List.getElem?_eq_some_iff.mp hx).1
  have Ti:eB.drop i=x::eB.drop (i+1):=by
   obtain⟨fE,e⟩:=List.getElem?_eq_some_iff.mp hx;rw[gT fE,e]
  rw[Ti]at E9 E8;have E9:(if isD x=true then di ns x rs::gM ns (eB.drop (i+1)) (di ns x rs)else gM ns (eB.drop (i+1)) rs)=MS.drop at':=E9;have E8:(if isD x=true then iD ns (eB.drop (i+1)) (di ns x rs)else ju ns x rs::iD ns (eB.drop (i+1)) rs)=XS.drop sp:=E8;have RY:=IC.b9 Rl.b9;obtain⟨qp,vt,vo,pa,j,rfl,hqp,_⟩:=IC
  have kH:vj (.str x.kd) [V.str "take",V.str "give",V.str "lean"]=isD x:=by
   rcases gK RL.vb with z|z|z|z|z|z<;>unfold isD<;>rw[z]<;>decide +kernel
  have UZ:(0:Int)<10^31:=by decide
  refine⟨_,Z,qp,_,0,.str x.kd,Z,Z,SqT.of (Rl _ _ hqp),Z,lk obz,fun q1 xC=>⟨q1,_,Z,.inr (SqT.of au),Z,Z,?_⟩⟩;have v1:=aB (o:=.tup [.str "take",.str "give",.str "lean"]) xC;generalize upd H9 q1 (.tup [.str "take",.str "give",.str "lean"])=HA at v1 ⊢;have BC:=Rl.trans v1;rw[bq gc,kH];cases hd:isD x with
  | true =>
   rw[hd,b6 rfl]at E9 E8
   have xb:MS[at']?=some (di ns x rs):=by
    have:=bP (fun l=>l[0]?) E9;simp only[List.getElem?_cons_zero,List.getElem?_drop,ub]at this;exact this.symm
   have R5:gM ns (eB.drop (i+1)) (di ns x rs)=MS.drop (at'+1):=by
    have:=bP List.tail E9;rw[List.tail_drop]at this;exact this
   have QE:at'<ms.length:=by
    rw[bg IX];exact(List.getElem?_eq_some_iff.mp xb).1
   obtain⟨ka,ME,b2,UX,hv,nc⟩:=bN IX at' ms[at'] (List.getElem?_eq_getElem QE);rw[xb]at ME;cases ME;obtain⟨_,hM',SR⟩:=vf RL hM hd hB;have Vw:=nc.same BC;refine⟨_,Z,bQ ?_⟩;refine⟨_,Z,q,_,1,_,Z,Z,SqT.of (BC _ _ Vm),Z,_,Z,ml,_,(at':Int),.ref b2,Z,Z,SqL.of (BC _ _ Sb),bR (j:=at') (by rw[List.getElem?_eq_getElem QE,hv]),?_⟩;refine⟨_,Z,_,_,Z,Z,?_⟩;refine⟨_,Z,_,Z,b2,Rz,np,UX,ns,_,Z,Vw,BC _ _ E_,BC _ _ MX,h8,hM',_,Z,bu ?_⟩;refine⟨_,b2,Rz,UX,_,at'+1,sp,Z,BC,Vw,BC _ _ E_,hM',?_,R5,E8⟩;have e:((i+1:Nat):Int)*10^31=(i:Int)*10^31+10^31:=by rw[Bz,Int.add_mul];rfl
   rw[e];exact SR
  | false =>
   rw[hd,bq gc]at E9 E8
   have xb:XS[sp]?=some (ju ns x rs):=by
    have:=bP (fun l=>l[0]?) E8;simp only[List.getElem?_cons_zero,List.getElem?_drop,ub]at this;exact this.symm
   have R5:iD ns (eB.drop (i+1)) rs=XS.drop (sp+1):=by
    have:=bP List.tail E8;rw[List.tail_drop]at this;exact this
   have hBi:(i:Int)*10^31<=10^40:=by
    have h1:(i:Int)*10^31<=90*10^31:=xw oo odz;have h2:(90:Int)*10^31<=10^40:=by decide
    exact oo
   refine⟨_,Z,bu ?_⟩;refine⟨_,Z,_,Z,_,Z,q,_,0,_,Z,Z,SqT.of (BC _ _ Vm),Z,_,Z,al,_,(sp:Int),.str (ju ns x rs),Z,Z,SqL.of (BC _ _ NM),bR (j:=sp) (by rw[kT,xb];rfl),?_⟩;refine⟨b,nb,rb,_,ns,rs,x,(i:Int)*10^31,Z,Qx.same v1,v1 _ _ Vt,h8,hM,hB,hBi,RY.b9 v1.b9,RL,hd,fun HB Rk=>⟨_,Z,bu ?_⟩⟩;refine⟨_,Z,_,_,Z,Z,?_⟩;refine⟨_,b,nb,rb,rs,at',sp+1,Z,BC.trans Rk,(Qx.same v1).same Rk,Rk _ _ (v1 _ _ Vt),hM,hB.more ?_,E9,R5⟩;have e:((i+1:Nat):Int)*10^31=(i:Int)*10^31+10^31:=by rw[Bz,Int.add_mul];rfl
   rw[e];exact oo
 rintro σ H9 ⟨o8,b,nb,rb,rs,at',sp,rfl,_⟩;exact k _
theorem tm(X:K.In h)(G:h.Ns mainGlobals mg)(q:Tq K x st f fd)(b:∀(kV doc pm:Value)(an:Option Addr)(g9 ct:Value)(us:List Value),us.length=ps.length->bindArgs (W.fnOf x x (gq st) (dW st) (aV st) .none kV doc pm an g9 ct) ⟨us,[]⟩=pure (ps.zip us):=by first|exact fun _ _ _ _ _ _=>L2.Ra fun _=>rfl|exact fun _ _ _ _ _ _=>L2.FR fun _ _=>rfl|exact fun _ _ _ _ _ _=>L2.Q_ fun _ _ _=>rfl|exact fun _ _ _ _ _ _=>L2.UM fun _ _ _ _=>rfl):Tp K mg x st ps f fd:=⟨q.F,q.F.binds b,eP X G q.a,q.F.kp⟩
theorem mm{y:Str}(q:Mq K C x y st f fd)(b:∀(kV doc pm:Value)(an:Option Addr)(g9 ct:Value)(us:List Value),us.length=ps.length->bindArgs (W.fnOf x y (gq st) (dW st) (aV st) .none kV doc pm an g9 ct) ⟨us,[]⟩=pure (ps.zip us):=by first|exact fun _ _ _ _ _ _=>L2.Ra fun _=>rfl|exact fun _ _ _ _ _ _=>L2.FR fun _ _=>rfl|exact fun _ _ _ _ _ _=>L2.Q_ fun _ _ _=>rfl|exact fun _ _ _ _ _ _=>L2.UM fun _ _ _ _=>rfl):Mp K C x y st ps f fd:=⟨q.F,q.F.binds b,⟨q.a,q.i,q.F.kp⟩⟩
end
theorem tq{sl:Array (Option Value)}{kV:Value}(a:W.nsIn K mainGlobals x=some (some (.ref f)))(l:K.lookup f=some ⟨oc,od,.func (W.fnOf x x (gq st) (dW st) (aV st) .none kV dc pm an cd ct),sl⟩)(c:W.codeIn K cd x=true)(k:W.keepIn K (.ref f)=true):Tq K x st f (W.fnOf x x (gq st) (dW st) (aV st) .none kV dc pm an cd ct):=⟨Dh l c k,a⟩
theorem mq{q:Str}{sl:Array (Option Value)}{kV:Value}(a:W.findIn K (.ref C) x=some (some (.ref f)))(i:W.isFn K (.ref f)=true)(l:K.lookup f=some ⟨oc,od,.func (W.fnOf x q (gq st) (dW st) (aV st) .none kV dc pm an cd ct),sl⟩)(c:W.codeIn K cd q=true)(k:W.keepIn K (.ref f)=true):Mq K C x q st f (W.fnOf x q (gq st) (dW st) (aV st) .none kV dc pm an cd ct):=⟨Dh l c k,a,i⟩
theorem txt_mk(X:K.In h)(G:h.Ns mainGlobals mg)
  {f0 f1 f2 f3 f4 f5 f6 f7 f8 f9 W7 W6 W5 W4 W3 W2 W0 WZ WY WX WW WV WU WT WS WR WQ WO WN WM WL WK WJ WI WH WG WE WD WC WB WA Wz Wy Wx Ww Wv Wu Wt Ws Wq Wo Wn Wm Wl Wk Wj Wi Tf Wh Te Td QS Tc Tb Wg NW Wf We Ta S_ S' Wd Wc Wb Wa SY SX SW V_ V' V9 V8 V7 V6 V5 V4 V3 V2 V1 V0 VZ VY OE OC OB OA Oy Of N_ N9 N4 N3 N2 N1 N0 NY NX B0 B1 B2 B3 B4 B5 B6 B7 B8 B9 Q8 se UI UH UG UE UD UC:Addr} {e0 e1 e2 e3 e4 e5 e6 e7 e8 e9 FI FH FG FF Yi Yh Yg Yf Ye Yd Yc Yb Ya X_ X' X9 X8 X7 OG X6 X5 X4 X3 X2 X1 X0 XZ XY XX XW Lv XU XT XR XQ XO XN XM XJ XI XH XG XF XE XD QU XC XB XA Xz Xy Xx Xw Xv Xu Xt Xs Xr Xq Xp Xo Xn Xm Xl Xk Xj Xi Xh Xg Xf Xe Xd Xc Xb Xa W_ W' W9 OV OU OT OS OR OQ OP OO ON OM OL OK OI OH JE:FuncData} {ZN ZM ZK ZJ ZI:Tok}
  (A0:W.nsIn K mainGlobals "MindError"=some (some (.ref B3)))
  (A1:W.nsIn K mainGlobals "NoSentence"=some (some (.ref B9)))
  (A2:W.nsIn K mainGlobals "TooDeep"=some (some (.ref Q8)))
  (A3:W.nsIn K mainGlobals "NoName"=some (some (.ref B8)))
  (A4:W.nsIn K mainGlobals "Always"=some (some (.ref B0)))
  (A5:W.nsIn K mainGlobals "Never"=some (some (.ref B4)))
  (A6:W.nsIn K mainGlobals "NoMinds"=some (some (.ref B7)))
  (A7:W.nsIn K mainGlobals "Unlike"=some (some (.ref UI)))
  (A8:W.nsIn K mainGlobals "NoBack"=some (some (.ref B6)))
  (A9:W.nsIn K mainGlobals "NoAgain"=some (some (.ref B5)))
  (A10:W.nsIn K mainGlobals "Log"=some (some (.ref B2)))
  (A11:W.nsIn K mainGlobals "Unfinished"=some (some (.ref se)))
  (A12:W.nsIn K mainGlobals "Course"=some (some (.ref B1)))
  (q0:Tq K "is_letter" S0 f0 e0)
  (q1:Tq K "is_name" S1 f1 e1)
  (q2:Tq K "parts_of" S2 f2 e2)
  (q3:Tq K "layer_below" S3 f3 e3)
  (q4:Tq K "depth" S4 f4 e4)
  (q5:Tq K "names_in" S5 f5 e5)
  (q6:Tq K "bit_at" S6 f6 e6)
  (q7:Tq K "last_world" S7 f7 e7)
  (q8:Tq K "need_names" S8 f8 e8)
  (q9:Tq K "sides" S9 f9 e9)
  (q10:Tq K "turned_about" ZG W7 FI)
  (q11:Tq K "joined" Uu W6 FH)
  (q12:Tq K "full" ZF W5 FG)
  (q13:Tq K "worlds_with" ZE W4 FF)
  (q14:Tq K "sides_of_names" ZD W3 Yi)
  (q15:Tq K "table" ZC W2 Yh)
  (q16:Tq K "breaking" ZA W0 Yg)
  (q17:Tq K "flat" Zz WZ Yf)
  (q18:Tq K "least_rank" Zy WY Ye)
  (q19:Tq K "firmness" Zx WX Yd)
  (q20:Tq K "held" Zw WW Yc)
  (q21:Tq K "both_leasts" Zv WV Yb)
  (q22:Tq K "leaning" Zu WU Ya)
  (q24:Tq K "need_alike" Zt WT X_)
  (q26:Tq K "is_nearest_in_all" Zs WS X')
  (q27:Tq K "common" Zr WR X9)
  (q28:Tq K "turned" Zq WQ X8)
  (q29:Tq K "given_up" Zp WO X7)
  (q30:Tq K "taken_on" Zo WN OG)
  (q31:Tq K "nearest" Zn WM X6)
  (q32:Tq K "lost" Zm WL X5)
  (q33:Mq K B2 "__init__" "Log.__init__" Zl WK X4)
  (q34:Mq K B2 "stand" "Log.stand" Zk WJ X3)
  (q35:Mq K B2 "take" "Log.take" Zj WI X2)
  (q36:Mq K B2 "give" "Log.give" Zi WH X1)
  (q37:Mq K B2 "turn" "Log.turn" Zh WG X0)
  (q41:Mq K B2 "mind" "Log.mind" Zg WE XZ)
  (q45:Tq K "words_of" Zf WD XY)
  (q46:Tq K "leaf" Ze WC XX)
  (q47:Tq K "takes_part" Zd WB XW)
  (q48:Mq K se "__init__" "Unfinished.__init__" Zc WA Lv)
  (q49:Mq K se "begin_part" "Unfinished.begin_part" Zb Wz XU)
  (q50:Mq K se "follow_part" "Unfinished.follow_part" Ut Wy XT)
  (q51:Mq K se "fold" "Unfinished.fold" Za Wx XR)
  (q52:Mq K se "fold_to_bracket" "Unfinished.fold_to_bracket" Y_ Ww XQ)
  (q53:Mq K se "close_bracket" "Unfinished.close_bracket" Y' Wv XO)
  (q54:Mq K se "whole" "Unfinished.whole" Y9 Wu XN)
  (q55:Tq K "tree_of_words" Y8 Wt XM)
  (q56:Tq K "read" Y7 Ws XJ)
  (q57:Tq K "rows_in" Y6 Wq XI)
  (q58:Tq K "words_in" Y5 Wo XH)
  (q59:Tq K "first_word" Y4 Wn XG)
  (q60:Tq K "behind_first_word" Y3 Wm XF)
  (q61:Tq K "is_figure" Y2 Wl XE)
  (q62:Tq K "number_in" Y1 Wk XD)
  (q63:Tq K "number_above_0" Y0 Wj QU)
  (q64:Tq K "lean_in" YZ Wi XC)
  (q65:Tq K "names_form" YY Tf XB)
  (q66:Tq K "numbered_form" YX Wh XA)
  (q67:Tq K "take_form" Us Te Xz)
  (q68:Tq K "lean_form" Ur Td Xy)
  (q69:Tq K "sentence_form" Uq QS Xx)
  (q70:Tq K "lost_form" Up Tc Xw)
  (q71:Tq K "keep_form" Uo Tb Xv)
  (q73:Tq K "bare_form" Um NW Xu)
  (q74:Tq K "form_of" Ul Wf Xt)
  (q75:Mq K B1 "__init__" "Course.__init__" Uk We Xs)
  (q76:Tq K "do_take" Uj Ta Xr)
  (q77:Tq K "do_give" Ui S_ Xq)
  (q78:Tq K "do_lean" Uh S' Xp)
  (q82:Tq K "shown_world" YW Wa Xo)
  (q83:Tq K "answer_ask" Ug SY Xn)
  (q84:Tq K "answer_lost" Ue SX Xm)
  (q85:Tq K "answer_worlds" Ud SW Xl)
  (q86:Tq K "do_row" Uc V_ Xk)
  (q87:Tq K "lacks_a_mind" YV V' Xj)
  (q88:Tq K "word_against" Ub V9 Xi)
  (q89:Tq K "names_told" Ua V8 Xh)
  (q90:Tq K "run" T_ V7 Xg)
  (q91:Tq K "_law_cell_at" T' V6 Xf)
  (q92:Tq K "_law_whole" YU V5 Xe)
  (q93:Tq K "_law_mixed" YT V4 Xd)
  (q94:Tq K "_law_names_by" YS V3 Xc)
  (q95:Tq K "_law_tree_by" T9 V2 Xb)
  (q96:Tq K "_law_column" YR V1 Xa)
  (q97:Tq K "_law_table" T8 V0 W_)
  (q98:Tq K "_law_is_mind" YQ VZ W')
  (q99:Tq K "_law_sides" YO VY W9)
  (q100:Tq K "_law_written" G9 OE OV)
  (q101:Tq K "_law_plan_by" Hc OC OU)
  (q103:Tq K "_law_pairs_by" M7 OB OT)
  (q104:Tq K "_law_counted" M8 OA OS)
  (q105:Tq K "_law_plans_by" Hd Oy OR)
  (q106:Tq K "_law_row_of" Hf Of OQ)
  (q107:Tq K "_law_text_of" Hg N_ OP)
  (q108:Tq K "_law_run_fits" M9 N9 OO)
  (q109:Tq K "_law_told_names" Nb N4 ON)
  (q110:Tq K "_law_world_text" Nf N3 OM)
  (q111:Tq K "_law_worlds_text" Ng N2 OL)
  (q112:Tq K "_law_ask_fits" Hh N1 OK)
  (q113:Tq K "_law_lost_fits" Hi N0 OI)
  (q114:Tq K "_law_answer_fits" Hj NY OH)
  (q115:Tq K "law" Hk NX JE)
  (A13:ff K B9=true)
  (A14:W.excIn K B9 tx "ValueError.__new__"=true)
  (A15:ff K Q8=true)
  (A16:W.excIn K Q8 tx "ValueError.__new__"=true)
  (A17:ff K B8=true)
  (A18:W.excIn K B8 tx "ValueError.__new__"=true)
  (A19:ff K B0=true)
  (A20:W.excIn K B0 tx "ValueError.__new__"=true)
  (A21:under K B0 B0=true)
  (A22:ff K B4=true)
  (A23:W.excIn K B4 tx "ValueError.__new__"=true)
  (A24:under K B4 B0=false)
  (A25:under K B4 B4=true)
  (A26:W.excIn K B7 tx "ValueError.__new__"=true)
  (A27:W.excIn K UI tx "ValueError.__new__"=true)
  (A28:ff K B6=true)
  (A29:ff K B5=true)
  (A30:W.plainGet K B2 Str.empty=true)
  (A31:W.hasDictIn K B2=true)
  (A32:W.plainOver K B2=true)
  (A33:W.findIn K (.ref B2) "__setattr__"=some (some (.builtin "object.__setattr__")))
  (A34:W.makesIn K B2=true)
  (A35:W.keepIn K (.ref B2)=true)
  (A36:W.findIn K (.ref B2) "standing"=some none)
  (A37:W.findIn K (.ref B2) "taken_back"=some none)
  (A38:W.plainGet K se Str.empty=true)
  (A39:W.hasDictIn K se=true)
  (A40:W.plainOver K se=true)
  (A41:W.findIn K (.ref se) "__setattr__"=some (some (.builtin "object.__setattr__")))
  (A42:W.makesIn K se=true)
  (A43:W.keepIn K (.ref se)=true)
  (A44:W.findIn K (.ref se) "trees"=some none)
  (A45:W.findIn K (.ref se) "signs"=some none)
  (A46:W.plainGet K B1 Str.empty=true)
  (A47:W.hasDictIn K B1=true)
  (A48:W.plainOver K B1=true)
  (A49:W.findIn K (.ref B1) "__setattr__"=some (some (.builtin "object.__setattr__")))
  (A50:W.makesIn K B1=true)
  (A51:W.keepIn K (.ref B1)=true)
  (A52:W.findIn K (.ref B1) "log"=some none)
  (A53:W.findIn K (.ref B1) "kept"=some none)
  (A54:W.findIn K (.ref B1) "answers"=some none)
  (A55:W.findIn K (.ref B1) "minds_behind"=some none)
  (A56:W.nsIn K mainGlobals "LONGEST_NAME"=some (some (.int 8 ZN)))
  (A57:W.nsIn K mainGlobals "LONGEST_TEXT"=some (some (.int 200 ZM)))
  (A58:W.nsIn K mainGlobals "GREATEST_DEPTH"=some (some (.int 40 ZK)))
  (A59:W.nsIn K mainGlobals "MOST_FIGURES"=some (some (.int 30 ZJ)))
  (A60:W.nsIn K mainGlobals "MOST_NAMES"=some (some (.int 8 ZI)))
  (A61:W.nsIn K mainGlobals "KINDS"=some (some (.ref UH)))
  (A62:sD P w K UH [(.inr "&",.str "and"),(.inr "|",.str "or"),(.inr ">",.str "then"),(.inr "=",.str "same")])
  (A63:W.nsIn K mainGlobals "BINDS"=some (some (.ref UG)))
  (A64:sD P w K UG [(.inr "&",.int 4),(.inr "|",.int 3),(.inr ">",.int 2),(.inr "=",.int 1)])
  (A65:W.nsIn K mainGlobals "FORMS"=some (some (.ref UE)))
  (A66:sD P w K UE [(.inr "names",.ref Tf),(.inr "take",.ref Te),(.inr "give",.ref QS),(.inr "lean",.ref Td),(.inr "keep",.ref Tb),(.inr "pour",.ref Wg),(.inr "back",.ref NW),(.inr "again",.ref NW),(.inr "ask",.ref QS),(.inr "lost",.ref Tc),(.inr "worlds",.ref NW)])
  (A67:W.nsIn K mainGlobals "DEEDS"=some (some (.ref UD)))
  (A68:sD P w K UD [(.inr "take",.ref Ta),(.inr "give",.ref S_),(.inr "lean",.ref S'),(.inr "pour",.ref Wd),(.inr "back",.ref Wc),(.inr "again",.ref Wb)])
  (A69:W.nsIn K mainGlobals "ANSWERS"=some (some (.ref UC)))
  (A70:sD P w K UC [(.inr "ask",.ref SY),(.inr "lost",.ref SX),(.inr "worlds",.ref SW)])
  (A71:W.nsIn K mainGlobals "all"=some none)
  (A72:W.nsIn K mainGlobals "bool"=some none)
  (A73:W.nsIn K mainGlobals "enumerate"=some none)
  (A74:W.nsIn K mainGlobals "int"=some none)
  (A75:W.nsIn K mainGlobals "isinstance"=some none)
  (A76:W.nsIn K mainGlobals "len"=some none)
  (A77:W.nsIn K mainGlobals "list"=some none)
  (A78:W.nsIn K mainGlobals "max"=some none)
  (A79:W.nsIn K mainGlobals "min"=some none)
  (A80:W.nsIn K mainGlobals "range"=some none)
  (A81:W.nsIn K mainGlobals "sorted"=some none)
  (A82:W.nsIn K mainGlobals "str"=some none)
  (A83:W.nsIn K mainGlobals "sum"=some none)
  (A84:W.nsIn K mainGlobals "tuple"=some none) (hl:∀(s:Shared) (u:Value),BindsTo s JE ⟨[u],[]⟩ [("_law_script",u)]):∃ t:ku,Txt P w K mg t :=
 ⟨⟨f0,e0,f1,e1,f2,e2,f3,e3,f4,e4,f5,e5,f6,e6,f7,e7,f8,e8,f9,e9,W7,FI,W6,FH,W5,FG,W4,FF,W3,Yi,W2,Yh,W0,Yg,WZ,Yf,WY,Ye,WX,Yd,WW,Yc,WV,Yb,WU,Ya,0,e0,WT,X_,0,e0,WS,X',WR,X9,WQ,X8,WO,X7,WN,OG,WM,X6,WL,X5,WK,X4,WJ,X3,WI,X2,WH,X1,WG,X0,0,e0,0,e0,0,e0,WE,XZ,0,e0,0,e0,0,e0,WD,XY,WC,XX,WB,XW,WA,Lv,Wz,XU,Wy,XT,Wx,XR,Ww,XQ,Wv,XO,Wu,XN,Wt,XM,Ws,XJ,Wq,XI,Wo,XH,Wn,XG,Wm,XF,Wl,XE,Wk,XD,Wj,QU,Wi,XC,Tf,XB,Wh,XA,Te,Xz,Td,Xy,QS,Xx,Tc,Xw,Tb,Xv,Wg,e0,NW,Xu,Wf,Xt,We,Xs,Ta,Xr,S_,Xq,S',Xp,Wd,e0,Wc,e0,Wb,e0,Wa,Xo,SY,Xn,SX,Xm,SW,Xl,V_,Xk,V',Xj,V9,Xi,V8,Xh,V7,Xg,V6,Xf,V5,Xe,V4,Xd,V3,Xc,V2,Xb,V1,Xa,V0,W_,VZ,W',VY,W9,OE,OV,OC,OU,0,e0,OB,OT,OA,OS,Oy,OR,Of,OQ,N_,OP,N9,OO,N4,ON,N3,OM,N2,OL,N1,OK,N0,OI,NY,OH,NX,JE,B3,B9,Q8,B8,B0,B4,B7,UI,B6,B5,0,B2,se,B1,ZN,ZM,ZK,ZJ,ZI,0,UH,UG,UE,UD,UC⟩,⟨tm X G q0,tm X G q1,tm X G q2,tm X G q3,tm X G q4,tm X G q5,tm X G q6,tm X G q7,tm X G q8,tm X G q9,tm X G q10,tm X G q11,tm X G q12,tm X G q13,tm X G q14,tm X G q15,tm X G q16,tm X G q17,tm X G q18,tm X G q19,tm X G q20,tm X G q21,tm X G q22,tm X G q24,tm X G q26,tm X G q27,tm X G q28,tm X G q29,tm X G q30,tm X G q31,tm X G q32,mm q33,mm q34,mm q35,mm q36,mm q37,mm q41,tm X G q45,tm X G q46,tm X G q47,mm q48,mm q49,mm q50,mm q51,mm q52,mm q53,mm q54,tm X G q55,tm X G q56,tm X G q57,tm X G q58,tm X G q59,tm X G q60,tm X G q61,tm X G q62,tm X G q63,tm X G q64,tm X G q65,tm X G q66,tm X G q67,tm X G q68,tm X G q69,tm X G q70,tm X G q71,tm X G q73,tm X G q74,mm q75,tm X G q76,tm X G q77,tm X G q78,tm X G q82,tm X G q83,tm X G q84,tm X G q85,tm X G q86,tm X G q87,tm X G q88,tm X G q89,tm X G q90,tm X G q91,tm X G q92,tm X G q93,tm X G q94,tm X G q95,tm X G q96,tm X G q97,tm X G q98,tm X G q99,tm X G q100,tm X G q101,tm X G q103,tm X G q104,tm X G q105,tm X G q106,tm X G q107,tm X G q108,tm X G q109,tm X G q110,tm X G q111,tm X G q112,tm X G q113,tm X G q114,tm X G q115,eP X G A1,A13,A14,eP X G A2,A15,A16,eP X G A3,A17,A18,eP X G A4,A19,A20,A21,eP X G A5,A22,A23,A24,A25,eP X G A6,A26,eP X G A7,A27,eP X G A8,A28,eP X G A9,A29,eP X G A10,⟨A30,A31,A32,A33⟩,⟨A34,q33.a,q33.i,A35⟩,A36,A37,eP X G A11,⟨A38,A39,A40,A41⟩,⟨A42,q48.a,q48.i,A43⟩,A44,A45,eP X G A12,⟨A46,A47,A48,A49⟩,⟨A50,q75.a,q75.i,A51⟩,A52,A53,A54,A55,eP X G A56,eP X G A57,eP X G A58,eP X G A59,eP X G A60,eP X G A61,A62,eP X G A63,A64,eP X G A65,A66,eP X G A67,A68,eP X G A69,A70,eh X G A71,eh X G A72,eh X G A73,eh X G A74,eh X G A75,eh X G A76,eh X G A77,eh X G A78,eh X G A79,eh X G A80,eh X G A81,eh X G A82,eh X G A83,eh X G A84,hl⟩⟩
end K67
namespace PySem.W.Fast
def tw4331537354273768355:=0
def tw18407382766025966986:=0
def tw12094826554568562796:=0
def tw1803834671194340687:=0
def tw6881026892438866531:=0
def tw666303276979584460:=0
def tw4948125026285733174:=0
def tw14745733332493852859:=0
def tw5684859086673094982:=0
def tw4824543815287497837:=0
def tw14370073537556719720:=0
def tw9315068229477236329:=0
def tw14095396838768902071:=0
def tw8361619420408466577:=0
def tw12011591056677403876:=0
def tw10169272855132324923:=0
def tw18156126294950005934:=0
def tw2880962890570602047:=0
def tw8992977702894164842:=0
def tw9709559090223150348:=0
def tw12357536933579251048:=0
def tw6170631674251380148:=0
def tw13259512746998725023:=0
def tw11019534219655790223:=0
def tw8465669923780272243:=0
def tw8606323739073685451:=0
def tw35628422595792378:=0
def tw16417373861415660637:=0
def tw3853299040091495497:=0
def tw807645735845813646:=0
def tw1592071812282125470:=0
def tw15593446519239614236:=0
def tw11115527493150177935:=0
def tw18014326447095221719:=0
def tw97682049693503943:=0
def tw4467471237476594632:=0
def tw20752770771551007:=0
def tw9456955618253668027:=0
def tw723203245030271991:=0
def tw5615861306708012045:=0
def tw6963696424999602265:=0
def tw5160706462630944874:=0
def tw7247873360852271698:=0
def tw16141420740383027605:=0
def tw3483734114292833016:=0
def tw6415869108133535944:=0
def tw11744983744211018127:=0
def tw6244655778673478381:=0
def tw10633164462519849037:=0
def tw8502255468123548708:=0
def tw5192072766959617020:=0
def tw1753819095315106085:=0
def tw4621608611024913703:=0
def tw15794284604023185017:=0
def tw9271217382006821323:=0
def tw819724959469872846:=0
def tw15557516635808447521:=0
def tw9648902468311088481:=0
def tw8251520727810339907:=0
def tw12722799309142843814:=0
def tw1198885670926865298:=0
def tw15247273729332337931:=0
def tw6467349314141693927:=0
def tw9529441866812451018:=0
def tw11090592932780081277:=0
def tw13230916560320515188:=0
def tw14925735414721697660:=0
def tw8986910524847624225:=0
def tw12653705563350912330:=0
def tw18274780936969068490:=0
def tw5405275850311456846:=0
def tw3744839177822150059:=0
def tw10693710242227444266:=0
def tw17878954960156801090:=0
def tw15343095076231137614:=0
def tw14991041974744568075:=0
def tw16626650620185853920:=0
def tw4316845818414273733:=0
def tw1948400280916826644:=0
def tw171186171726741513:=0
def tw11022578569750685438:=0
def tw4125276762414303102:=0
def tw15205095235667848732:=0
def tw5649472181032544428:=0
def tw3842177759123776575:=0
def tw12743539245608483827:=0
def tw3131921264456045517:=0
def tw10048759855515079823:=0
def tw12158450454874836016:=0
def tw18263376540204084126:=0
def tw2442567726425990789:=0
def tw3000551577563989995:=0
def tw3422362679717931465:=0
def tw7145675474928180698:=0
def tw370880179350542486:=0
def tw10968354914267960369:=0
def tw352925196899801602:=0
def tw4881201507093685613:=0
def tw13335672543607244378:=0
def tw850833103127969805:=0
def tw4450321565451648514:=0
def tw5220966734806904423:=0
def tw2765266077475716751:=0
def tw18044843944681634893:=0
def tw711691117784313404:=0
def tw6747451281080432860:=0
def tw16099812486127111905:=0
def tw18401247241416952751:=0
def tw11738102111051418284:=0
def tw174515739067651765:=0
def tw2052392166554147158:=0
def tw9278711868839834531:=0
def tw15056424232044708277:=0
def tw365324725100409758:=0
def tw14166718674812118526:=0
def tw5966040612234660318:=0
def tw6024119406959262710:=0
def tw3952477371008541249:=0
def tw18147156820120735233:=0
def tw4001423294931777646:=0
def tw1433884136654602910:=0
def tw9429251697804281303:=0
def tw6062720199665064643:=0
def tw9949907748731568055:=0
def tw3986969542283370988:=0
def tw17376918017829674923:=0
def tw1258071545019304488:=0
def tw10468854879126421592:=0
def tw4812075282466132714:=0
def tw11449783676622237293:=0
def tw2719277279068757421:=0
def tw13209538044791186335:=0
def tw6634536961592010823:=0
def tw10640001176914085756:=0
def tw7235652242021460761:=0
def tw2806999310909409848:=0
def tw11792242135965907929:=0
def tw4835651046382610287:=0
def tw5188737502104809100:=0
def tw16523368368684287840:=0
def tw14758072886348550454:=0
def tw5055140746464292812:=0
def tw17314310711661838852:=0
def tw4589368934249510344:=0
def tw12151662104076329695:=0
def tw17448498099137251140:=0
def tw15901587458585261633:=0
def tw1993777510094460100:=0
def tw12617153190050435143:=0
def tw11069457645129983038:=0
def tw9570626217410668055:=0
def tw13040616724057555086:=0
def tw1280637505456171409:=0
def tw17949939228740446769:=0
def tw16027173003892445328:=0
def tw15518426854631312706:=0
def tw10797655777534368632:=0
def tw16742281326152392825:=0
def tw5460440063333583714:=0
def tw1397517337325733025:=0
def tw17755372804893737983:=0
def tw7954898500707424116:=0
def tw11676336958890646702:=0
def tw6312934223163798212:=0
def tw1604003599842731885:=0
def tw11335857059009758452:=0
def tw3516009804621309647:=0
def tw8450884768586580263:=0
def tw17044071261167388709:=0
def tw6794370390056629774:=0
def tw4572112195452606360:=0
def tw7087903295605717675:=0
def tw13848899654005774452:=0
def tw9020828903671013920:=0
def tw993610016067126220:=0
def tw12407284228656445624:=0
def tw17126818220947241013:=0
def tw4745448022306848108:=0
def tw18110578852485024139:=0
def tw7831037531741179992:=0
def tw12935367852341033949:=0
def tw7517996971886716842:=0
def tw1528176905556954300:=0
def tw7756088575082157228:=0
def tw2969104320034478562:=0
def tw14538715913698730214:=0
def tw12474495946060420056:=0
def tw14335422357628859468:=0
def tw16963420091734995143:=0
def tw10441162480301287040:=0
def tw11506865194213532796:=0
def tw900773143111283328:=0
def tw2925113687461171860:=0
def tw5662858183215754965:=0
def tw8588970772330710971:=0
def tw8341131434906243589:=0
def tw8240177149056155773:=0
def tw6243954461277186697:=0
def tw17108993057559041298:=0
def tw1322338299264371208:=0
def tw12634699002891195867:=0
def tw3802372595045542631:=0
def tw9743440449293372816:=0
def tw7688335351417533377:=0
def tw17699472449213151862:=0
def tw6911068406011971426:=0
def tw15521159806279845906:=0
def tw11171535434655223302:=0
def tw5590575054740326598:=0
def tw14916265675843436018:=0
def tw7040573589940380979:=0
def tw2643673539832523004:=0
def tw13099903929398896926:=0
def tw2459920356502584068:=0
def tw9108582436573155297:=0
def tw146951029597575681:=0
def tw2897242317586049426:=0
def tw17944496183083287111:=0
def tw15794960112828368307:=0
def tw10068834079707863031:=0
def tw10765476852281897507:=0
def tw5071829253738780510:=0
def tw5915717384693335946:=0
def tw1482234202610945547:=0
def tw9771071735386096210:=0
def tw6058981672146953449:=0
def tw6113594928717227294:=0
def tw9167057539750037204:=0
def tw12143094599665606168:=0
def tw10185340777520514179:=0
def tw11493691445699125783:=0
def tw17390002108142231319:=0
def tw987682135732329232:=0
def tw13789228424054038629:=0
def tw6886630566534748457:=0
def tw13842220200007182865:=0
def tw17872764900151109075:=0
def tw2318892768265671820:=0
def tw5916458478395317006:=0
def tw7126498930306779822:=0
def tw8457019419305603538:=0
def tw12197345801994655868:=0
def tw16678449646588486707:=0
def tw15939423399033565191:=0
def tw14574531415696922708:=0
def tw9099446458279135868:=0
def tw13741705170673165535:=0
def tw2899047045221812386:=0
def tw15344875193259387319:=0
def tw9330496338540946678:=0
def tw15959098572930228298:=0
def tw3217407767657422432:=0
def tw12613046073562122429:=0
end PySem.W.Fast
open PySem PySem.W PyProof.Rows
set_option maxRecDepth 100000 in
set_option maxHeartbeats 0 in
theorem PySem.Challenge.cw_mindchange_k67_whole_run_asked_holds : PySem.Challenge.rw_mindchange_k67_whole_run_asked.Holds := by
 w_on;o_law;k_head;(case hw=>w_witness2)
 k_fill
 refine L2.walk_ofX (l:=PySem.Challenge.rw_mindchange_k67_whole_run_asked) (n:=63) (k:=127) (x := "_law_script") (sp:=K67.spLaw) rfl (by decide) rfl ⟨rfl,by decide,by decide⟩ (fun w h Y=>PySem.W.kIn_of Y) ?F ?S
 case F =>
  intro w mg fa h KX G hmg
  have T:∃ t,K67.Txt PySem.Challenge.rw_mindchange_k67_whole_run_asked.prog w (L2.KOf KX) mg t:=by
   dsimp only[L2.KOf]
   refine' K67.txt_mk KX G ?A0 ?A1 ?A2 ?A3 ?A4 ?A5 ?A6 ?A7 ?A8 ?A9 ?A10 ?A11 ?A12 ?q0 ?q1 ?q2 ?q3 ?q4 ?q5 ?q6 ?q7 ?q8 ?q9 ?q10 ?q11 ?q12 ?q13 ?q14 ?q15 ?q16 ?q17 ?q18 ?q19 ?q20 ?q21 ?q22 ?q24 ?q26 ?q27 ?q28 ?q29 ?q30 ?q31 ?q32 ?q33 ?q34 ?q35 ?q36 ?q37 ?q41 ?q45 ?q46 ?q47 ?q48 ?q49 ?q50 ?q51 ?q52 ?q53 ?q54 ?q55 ?q56 ?q57 ?q58 ?q59 ?q60 ?q61 ?q62 ?q63 ?q64 ?q65 ?q66 ?q67 ?q68 ?q69 ?q70 ?q71 ?q73 ?q74 ?q75 ?q76 ?q77 ?q78 ?q82 ?q83 ?q84 ?q85 ?q86 ?q87 ?q88 ?q89 ?q90 ?q91 ?q92 ?q93 ?q94 ?q95 ?q96 ?q97 ?q98 ?q99 ?q100 ?q101 ?q103 ?q104 ?q105 ?q106 ?q107 ?q108 ?q109 ?q110 ?q111 ?q112 ?q113 ?q114 ?q115 ?A13 ?A14 ?A15 ?A16 ?A17 ?A18 ?A19 ?A20 ?A21 ?A22 ?A23 ?A24 ?A25 ?A26 ?A27 ?A28 ?A29 ?A30 ?A31 ?A32 ?A33 ?A34 ?A35 ?A36 ?A37 ?A38 ?A39 ?A40 ?A41 ?A42 ?A43 ?A44 ?A45 ?A46 ?A47 ?A48 ?A49 ?A50 ?A51 ?A52 ?A53 ?A54 ?A55 ?A56 ?A57 ?A58 ?A59 ?A60 ?A61 ?A62 ?A63 ?A64 ?A65 ?A66 ?A67 ?A68 ?A69 ?A70 ?A71 ?A72 ?A73 ?A74 ?A75 ?A76 ?A77 ?A78 ?A79 ?A80 ?A81 ?A82 ?A83 ?A84 ?zhl
   (case A0|A1|A2|A3|A4|A5|A6|A7|A8|A9|A10|A11|A12=>k_is)
   (case q0|q1|q2|q3|q4|q5|q6|q7|q8|q9|q10|q11|q12|q13|q14|q15|q16|q17|q18|q19|q20|q21|q22|q24|q26|q27|q28|q29|q30|q31|q32|q45|q46|q47|q55|q56|q57|q58|q59|q60|q61|q62|q63|q64|q65|q66|q67|q68|q69|q70|q71|q73|q74|q76|q77|q78|q82|q83|q84|q85|q86|q87|q88|q89|q90|q91|q92|q93|q94|q95|q96|q97|q98|q99|q100|q101|q103|q104|q105|q106|q107|q108|q109|q110|q111|q112|q113|q114|q115=>refine' K67.tq ?a ?l ?c ?k;(case a=>k_is);(case l=>k_is);(case c=>k_is);(case k=>k_is))
   (case q33|q34|q35|q36|q37|q41|q48|q49|q50|q51|q52|q53|q54|q75=>refine' K67.mq ?a ?i ?l ?c ?k;(case a=>k_is);(case i=>k_is);(case l=>k_is);(case c=>k_is);(case k=>k_is))
   (case A30|A31|A32|A33|A34|A35|A36|A37|A38|A39|A40|A41|A42|A43|A44|A45|A46|A47|A48|A49|A50|A51|A52|A53|A54|A55|A56|A57|A58|A59|A60|A61|A63|A65|A67|A69|A71|A72|A73|A74|A75|A76|A77|A78|A79|A80|A81|A82|A83|A84=>k_is)
   (case A13|A15|A17|A19|A21|A22|A24|A25|A28|A29=>kernel_rfl)
   (case A14=>k_exc)
   (case A16=>k_exc)
   (case A18=>k_exc)
   (case A20=>k_exc)
   (case A23=>k_exc)
   (case A26=>k_exc)
   (case A27=>k_exc)
   (case A62=>(refine' L2.mdk_of ?l ?m ?n ?s;(case l=>k_is);(case m=>(repeat (refine⟨rfl,⟨_,rfl⟩,⟨_,rfl⟩,?_⟩));exact True.intro);(case n=>decide +kernel);(case s=>kernel_rfl)))
   (case A64=>(refine' L2.mdk_of ?l ?m ?n ?s;(case l=>k_is);(case m=>(repeat (refine⟨rfl,⟨_,rfl⟩,⟨_,rfl⟩,?_⟩));exact True.intro);(case n=>decide +kernel);(case s=>kernel_rfl)))
   (case A66=>(refine' L2.mdk_of ?l ?m ?n ?s;(case l=>k_is);(case m=>(repeat (refine⟨rfl,⟨_,rfl⟩,rfl,?_⟩));exact True.intro);(case n=>decide +kernel);(case s=>kernel_rfl)))
   (case A68=>(refine' L2.mdk_of ?l ?m ?n ?s;(case l=>k_is);(case m=>(repeat (refine⟨rfl,⟨_,rfl⟩,rfl,?_⟩));exact True.intro);(case n=>decide +kernel);(case s=>kernel_rfl)))
   (case A70=>(refine' L2.mdk_of ?l ?m ?n ?s;(case l=>k_is);(case m=>(repeat (refine⟨rfl,⟨_,rfl⟩,rfl,?_⟩));exact True.intro);(case n=>decide +kernel);(case s=>kernel_rfl)))
   (case zhl=>exact fun s u=>.of_eq rfl)
  obtain⟨t,T⟩:=T
  have e0:=hmg.symm.trans T.q115.m
  cases e0
  refine' ⟨t.d115,?b,fun base kb nb=>K67.ok_law T⟩
  exact T.bl
 case S=>exact fun K H a ns hl hO hS=>⟨a,ns,rfl,hS,hl,fun _=>rfl⟩
#print axioms PySem.Challenge.cw_mindchange_k67_whole_run_asked_holds