import PyProof.Rows.All
import Wide.All
import OpenK.AllK
import Wide.FinOn
import PySem.Challenge.RW_dotscreen_k14_nearest
import Lean
import PyProof.EqAt
import PyProof.EqKinds
import PyProof.TupleCall
import PyProof.CompFree
import PyProof.StationsW
import PyProof.ExcClass3
import PyProof.Cells
import PyProof.PassesOwn
import PyProof.RangeIter
import PyProof.TableTree
import PyProof.ZipIter
import PyProof.Draws
import PyProof.TupleIter
import PyProof.EnumMake
import PyProof.EnumStmt
import KE.KDictList
import PyProof.Rows.SortWalk
import KE.KRevIter
import PyProof.CollectIter
import KE.KRevSl
import KE.KMinKey
import KE.KLam
import PyProof.DictIter
import PyProof.AttrMiss
import PyProof.IsiH_list
import PyProof.CollectWalk
import KE.KDictOf
import PyProof.DictCopy
import PyProof.FactsAll.tuple_1
import PyProof.FactsAll.dict_3
import PyProof.DictItems
import KE.KIntText
import PyProof.StrBlock2
import PyProof.Rows.StrMul
import PySem.SetOps
import PySem.Builtin.Tuple.Common
import PyProof.Rows.SetFrom
import PyProof.SetRoads
import PyProof.WalksS
import KE.KItemsList
import KE.KSortAsk
import KE.KFind
import KE.KSortTup
import PySem.Str
import PyProof.StrBlockL
import KE.IntTextText
import KE.IntBitsLaws
import PyProof.FitsBits
import PyProof.Rows.InDataRows
set_option Elab.async false
set_option linter.all false
set_option tactic.hygienic false
set_option maxRecDepth 100000
set_option genSizeOf false
set_option genSizeOfSpec false
set_option bootstrap.genMatcherCode false
def PySem.W.Fast.tw3323659682140670123:Nat:=0
def PySem.W.Fast.tw190712371989828751:Nat:=0
def PySem.W.Fast.tw3628548767064752107:Nat:=0
def PySem.W.Fast.tw15387985988397730154:Nat:=0
def PySem.W.Fast.tw6966814430910113393:Nat:=0
def PySem.W.Fast.tw12298157829007003735:Nat:=0
def PySem.W.Fast.tw9666284387879304154:Nat:=0
def PySem.W.Fast.tw13618957085338030949:Nat:=0
def PySem.W.Fast.tw13123609479693373936:Nat:=0
def PySem.W.Fast.tw6324706612701970736:Nat:=0
def PySem.W.Fast.tw12586172478005107503:Nat:=0
def PySem.W.Fast.tw14902648326335778612:Nat:=0
def PySem.W.Fast.tw17471617306214300072:Nat:=0
def PySem.W.Fast.tw16019422337826929591:Nat:=0
def PySem.W.Fast.tw13544679231664428106:Nat:=0
def PySem.W.Fast.tw10801233570609547135:Nat:=0
def PySem.W.Fast.tw10026992856633839666:Nat:=0
def PySem.W.Fast.tw1039614493947890911:Nat:=0
def PySem.W.Fast.tw12425234743147276655:Nat:=0
def PySem.W.Fast.tw14954990431195902150:Nat:=0
def PySem.W.Fast.tw12153618713832401630:Nat:=0
def PySem.W.Fast.tw14106429765124967683:Nat:=0
def PySem.W.Fast.tw14593576634936744452:Nat:=0
def PySem.W.Fast.tw281542056009620118:Nat:=0
def PySem.W.Fast.tw15879172593328473771:Nat:=0
def PySem.W.Fast.tw12035861495082971002:Nat:=0
def PySem.W.Fast.tw8586318898769539979:Nat:=0
def PySem.W.Fast.tw3465003602634683939:Nat:=0
def PySem.W.Fast.tw5895452047085650114:Nat:=0
def PySem.W.Fast.tw4034792180498400937:Nat:=0
def PySem.W.Fast.tw17580113467353349283:Nat:=0
def PySem.W.Fast.tw7615032786016805404:Nat:=0
def PySem.W.Fast.tw11186594727844020527:Nat:=0
def PySem.W.Fast.tw9543889296254668148:Nat:=0
def PySem.W.Fast.tw11079630937433140811:Nat:=0
def PySem.W.Fast.tw3228895520597488950:Nat:=0
def PySem.W.Fast.tw6520903020893832523:Nat:=0
def PySem.W.Fast.tw15424903514623116726:Nat:=0
def PySem.W.Fast.tw16191269661819848429:Nat:=0
def PySem.W.Fast.tw5773084409176777855:Nat:=0
def PySem.W.Fast.tw9766343509112869197:Nat:=0
def PySem.W.Fast.tw6373052951625259104:Nat:=0
def PySem.W.Fast.tw11248836957066022613:Nat:=0
def PySem.W.Fast.tw17839505312006186035:Nat:=0
def PySem.W.Fast.tw17575353335209603143:Nat:=0
def PySem.W.Fast.tw1561275731818130485:Nat:=0
def PySem.W.Fast.tw14766690010112708365:Nat:=0
def PySem.W.Fast.tw5065746588572113998:Nat:=0
def PySem.W.Fast.tw14322602113134235958:Nat:=0
def PySem.W.Fast.tw12295246443593616774:Nat:=0
def PySem.W.Fast.tw13362159890696470432:Nat:=0
def PySem.W.Fast.tw16258561347696164046:Nat:=0
def PySem.W.Fast.tw404408615707069106:Nat:=0
def PySem.W.Fast.tw8113757008790873025:Nat:=0
def PySem.W.Fast.tw14083806039383828321:Nat:=0
def PySem.W.Fast.tw15633545829180381800:Nat:=0
def PySem.W.Fast.tw2623191052838074934:Nat:=0
def PySem.W.Fast.tw4789092331556583278:Nat:=0
def PySem.W.Fast.tw2822853798134946090:Nat:=0
def PySem.W.Fast.tw13341034728943278472:Nat:=0
def PySem.W.Fast.tw10067904449605807408:Nat:=0
def PySem.W.Fast.tw5865387077301180166:Nat:=0
def PySem.W.Fast.tw8651817599672739373:Nat:=0
def PySem.W.Fast.tw8380787277868819581:Nat:=0
def PySem.W.Fast.tw16117570075109152881:Nat:=0
def PySem.W.Fast.tw12307536976198146636:Nat:=0
def PySem.W.Fast.tw15274837254474461571:Nat:=0
def PySem.W.Fast.tw16330577001913821526:Nat:=0
def PySem.W.Fast.tw2572890352245954045:Nat:=0
def PySem.W.Fast.tw10600082601972570359:Nat:=0
def PySem.W.Fast.tw10630571000389075581:Nat:=0
def PySem.W.Fast.tw16416197179589932123:Nat:=0
def PySem.W.Fast.tw1851899631437428904:Nat:=0
def PySem.W.Fast.tw14143886084833242337:Nat:=0
def PySem.W.Fast.tw5794039192248282334:Nat:=0
def PySem.W.Fast.tw5200245104889919565:Nat:=0
def PySem.W.Fast.tw15122729525298537548:Nat:=0
def PySem.W.Fast.tw15567125270302890860:Nat:=0
def PySem.W.Fast.tw13569123982242378745:Nat:=0
def PySem.W.Fast.tw3731598563378845788:Nat:=0
def PySem.W.Fast.tw18020711387925295515:Nat:=0
def PySem.W.Fast.tw5670002908621120786:Nat:=0
def PySem.W.Fast.tw4289276702237239935:Nat:=0
def PySem.W.Fast.tw15323260845647640537:Nat:=0
def PySem.W.Fast.tw2184764905364785277:Nat:=0
def PySem.W.Fast.tw7781957175003253997:Nat:=0
def PySem.W.Fast.tw9632811422290492169:Nat:=0
def PySem.W.Fast.tw842650030480713865:Nat:=0
def PySem.W.Fast.tw11060890614135930325:Nat:=0
def PySem.W.Fast.tw14594577462879578555:Nat:=0
def PySem.W.Fast.tw15842783298697606008:Nat:=0
def PySem.W.Fast.tw14268015778503003498:Nat:=0
def PySem.W.Fast.tw10781275983663272842:Nat:=0
def PySem.W.Fast.tw8159211804689502778:Nat:=0
def PySem.W.Fast.tw8135929071468901401:Nat:=0
def PySem.W.Fast.tw14536208971108862388:Nat:=0
def PySem.W.Fast.tw11803251745989268675:Nat:=0
def PySem.W.Fast.tw2261859632736317127:Nat:=0
def PySem.W.Fast.tw9839585513858343809:Nat:=0
def PySem.W.Fast.tw3282803518877998456:Nat:=0
def PySem.W.Fast.tw12047403410487624745:Nat:=0
def PySem.W.Fast.tw18388792138355524444:Nat:=0
def PySem.W.Fast.tw1865450631779258697:Nat:=0
def PySem.W.Fast.tw1344975615564408646:Nat:=0
def PySem.W.Fast.tw192358905458515466:Nat:=0
def PySem.W.Fast.tw3755049948981728065:Nat:=0
def PySem.W.Fast.tw8466556162509849145:Nat:=0
def PySem.W.Fast.tw12619253263106013222:Nat:=0
def PySem.W.Fast.tw6926591782216375576:Nat:=0
def PySem.W.Fast.tw14822083756840281087:Nat:=0
def PySem.W.Fast.tw4619387059071030280:Nat:=0
def PySem.W.Fast.tw4313481149266134975:Nat:=0
def PySem.W.Fast.tw16762444653748142944:Nat:=0
def PySem.W.Fast.tw12214128059491487557:Nat:=0
def PySem.W.Fast.tw9239750333385772269:Nat:=0
def PySem.W.Fast.tw61860602360549949:Nat:=0
def PySem.W.Fast.tw4512492651171228332:Nat:=0
def PySem.W.Fast.tw18364285331835115256:Nat:=0
def PySem.W.Fast.tw6615861023772615754:Nat:=0
def PySem.W.Fast.tw1554618381757461629:Nat:=0
def PySem.W.Fast.tw7553168233622229545:Nat:=0
def PySem.W.Fast.tw8663726651587335352:Nat:=0
def PySem.W.Fast.tw2034065813166257475:Nat:=0
def PySem.W.Fast.tw4191294690962986833:Nat:=0
def PySem.W.Fast.tw6517190838627918261:Nat:=0
def PySem.W.Fast.tw11807669219994894416:Nat:=0
def PySem.W.Fast.tw4506750115069517426:Nat:=0
def PySem.W.Fast.tw15497763189577222333:Nat:=0
def PySem.W.Fast.tw12408491508392697846:Nat:=0
def PySem.W.Fast.tw5063501433786419332:Nat:=0
def PySem.W.Fast.tw15435916950144765120:Nat:=0
theorem OB.e2{α β}{p:α->β->Prop}{G:Prop}(h:∃ a b,p a b)(k:∀ a b,p a b->G):G:=h.elim fun a h=>Exists.elim h (k a)
theorem OB.e3{α β γ}{p:α->β->γ->Prop}{G:Prop}(h:∃ a b c,p a b c)(k:∀ a b c,p a b c->G):G:=h.elim fun a h=>OB.e2 h (k a)
theorem OB.e4{α β γ δ}{p:α->β->γ->δ->Prop}{G:Prop}(h:∃ a b c d,p a b c d)(k:∀ a b c d,p a b c d->G):G:=h.elim fun a h=>OB.e3 h (k a)
theorem OB.e5{α β γ δ ε}{p:α->β->γ->δ->ε->Prop}{G:Prop}(h:∃ a b c d e,p a b c d e)(k:∀ a b c d e,p a b c d e->G):G:=h.elim fun a h=>OB.e4 h (k a)
theorem OB.e6{α β γ δ ε ζ}{p:α->β->γ->δ->ε->ζ->Prop}{G:Prop}(h:∃ a b c d e f,p a b c d e f)(k:∀ a b c d e f,p a b c d e f->G):G:=h.elim fun a h=>OB.e5 h (k a)
theorem OB.a2{A B G:Prop}(h:A/\B)(k:A->B->G):G:=k h.1 h.2
theorem OB.a3{A B C G:Prop}(h:A/\B/\C)(k:A->B->C->G):G:=OB.a2 h.2 (k h.1)
theorem OB.a4{A B C D G:Prop}(h:A/\B/\C/\D)(k:A->B->C->D->G):G:=OB.a3 h.2 (k h.1)
theorem OB.a5{A B C D E G:Prop}(h:A/\B/\C/\D/\E)(k:A->B->C->D->E->G):G:=OB.a4 h.2 (k h.1)
theorem OB.a6{A B C D E F G:Prop}(h:A/\B/\C/\D/\E/\F)(k:A->B->C->D->E->F->G):G:=OB.a5 h.2 (k h.1)
theorem OB.a7{A B C D E F H G:Prop}(h:A/\B/\C/\D/\E/\F/\H)(k:A->B->C->D->E->F->H->G):G:=OB.a6 h.2 (k h.1)
theorem OB.a8{A B C D E F H I G:Prop}(h:A/\B/\C/\D/\E/\F/\H/\I)(k:A->B->C->D->E->F->H->I->G):G:=OB.a7 h.2 (k h.1)
theorem OB.a9{A B C D E F H I J G:Prop}(h:A/\B/\C/\D/\E/\F/\H/\I/\J)(k:A->B->C->D->E->F->H->I->J->G):G:=OB.a8 h.2 (k h.1)
open Lean in
local macro_rules|`(tactic|obtain⟨$ps,*⟩:=$e:term)=>do
 let mut xs:Array Term:=#[]
 let mut po:Array (TSyntax `tactic):=#[]
 for p in ps.getElems do
  let q:=p.raw[0][0][0]
  let i:=q[0].getId
  unless p.raw[0][0].getNumArgs==1&&p.raw[1].getNumArgs==0 do Macro.throwUnsupported
  let x:=mkIdent (.mkSimple s!"o{xs.size}'")
  if q.isOfKind `Lean.Parser.Tactic.rcasesPat.ignore then xs:=xs.push x
  else if q.isOfKind `Lean.Parser.Tactic.rcasesPat.tuple then
   xs:=xs.push x
   let qs:TSyntaxArray `Lean.Parser.Tactic.rcasesPatLo:=⟨q[1].getSepArgs.toList.map (⟨·⟩)⟩
   po:=po.push (<-`(tactic|obtain⟨$qs,*⟩:=$x:ident))
  else if q.isOfKind `Lean.Parser.Tactic.rcasesPat.one&&q[0].isIdent then
   if i==`rfl then
    xs:=xs.push x
    po:=po.push (<-`(tactic|first|subst $x:ident|cases $x:ident))
   else xs:=xs.push ⟨q[0]⟩
  else Macro.throwUnsupported
 let n:=xs.size
 if e.raw.isIdent&& !xs.any (·.raw.getId==e.raw.getId) then po:=#[(<-`(tactic|try clear $(⟨e.raw⟩):ident))]++po
 let f (c:String)(k:Nat):Term:=⟨mkIdent (if c=="e"&&k==1 then `Exists.elim else .str `OB s!"{c}{k}")⟩
 let mut al:Array (TSyntax `Lean.Parser.Tactic.tacticSeq):=#[]
 for k in [0:n] do
  if k<7&&n-k<10&&1<n then
   let y:=xs.extract k n
   let t<-if k==0 then `($(f "a" n) $e fun $xs* =>?_) else if n-k==1 then `($(f "e" k) $e fun $xs* =>?_) else
    let x:=xs.extract 0 k
    `($(f "e" k) $e fun $x* r=>$(f "a" (n-k)) r fun $y* =>?_)
   al:=al.push (<-`(tacticSeq|refine $t;$[$po]*))
 al:=al.push (<-`(tacticSeq|rcases $e:term with⟨$ps,*⟩))
 `(tactic|first $[|$al]*)
section
namespace L2
open PySem PySem.Spec PyProof.Rows
noncomputable abbrev Key:=Sum Int Str
noncomputable def keyIs:Key→Value→Bool
  | .inl k,v=>Value.isInt k v
  | .inr x,v=>Value.isStrOf x v
noncomputable def keyH (w:World):Key→Int
  | .inl k=>hashInt k
  | .inr x=>hashStr w x
theorem keyIs_shape:∀ {k:Key} {v:Value},keyIs k v=true→(∃ i t,k=Sum.inl i∧v=Value.int i t)∨(∃ x t,k=Sum.inr x∧v=Value.str x t)
  | .inl i,v,h=>by
    obtain ⟨t,e⟩:=Value.isInt_shape (k:=i) (v:=v) h
    exact .inl ⟨i,t,rfl,e⟩
  | .inr x,v,h=>by
    obtain ⟨t,e⟩:=Value.isStrOf_shape (x:=x) (v:=v) h
    exact .inr ⟨x,t,rfl,e⟩
theorem keyIs_int (i:Int) (t:Tok):keyIs (.inl i) (.int i t)=true:=by simp [keyIs,Value.isInt]
theorem keyIs_str (x:Str) (t:Tok):keyIs (.inr x) (.str x t)=true:=by simp [keyIs,Value.isStrOf]
theorem key_ll (a b:Int):decide ((Sum.inl a:Key)=Sum.inl b)=(a == b):=by
  by_cases e:a=b
  · subst e; simp
  · have h:¬ (Sum.inl a:Key)=Sum.inl b:=fun q=>e (Sum.inl.inj q)
    rw [decide_eq_false h]
    exact (beq_eq_false_iff_ne.mpr e).symm
theorem key_rr (a b:Str):decide ((Sum.inr a:Key)=Sum.inr b)=decide (a=b):=by
  by_cases e:a=b
  · subst e; simp
  · have h:¬ (Sum.inr a:Key)=Sum.inr b:=fun q=>e (Sum.inr.inj q)
    rw [decide_eq_false h,decide_eq_false e]
theorem key_lr (a:Int) (b:Str):decide ((Sum.inl a:Key)=Sum.inr b)=false:=decide_eq_false (fun q=>nomatch q)
theorem key_rl (a:Str) (b:Int):decide ((Sum.inr a:Key)=Sum.inl b)=false:=decide_eq_false (fun q=>nomatch q)
noncomputable def mixKind (prog:Program) (w:World):PySem.KeyKind prog w Key where
  is:=keyIs
  hash:=keyH w
  inj:=fun v a b ha hb=>by
    rcases keyIs_shape ha with ⟨i,t,rfl,rfl⟩ | ⟨x,t,rfl,rfl⟩
    · rcases keyIs_shape hb with ⟨j,u,rfl,e⟩ | ⟨y,u,rfl,e⟩
      · injection e with e1 _; rw [e1]
      · exact nomatch e
    · rcases keyIs_shape hb with ⟨j,u,rfl,e⟩ | ⟨y,u,rfl,e⟩
      · exact nomatch e
      · injection e with e1 _; rw [e1]
  byValue:=fun k v h=>by
    rcases keyIs_shape h with ⟨i,t,rfl,rfl⟩ | ⟨x,t,rfl,rfl⟩ <;> rfl
  pyHash:=fun hv h=>by
    rcases keyIs_shape hv with ⟨i,t,rfl,rfl⟩ | ⟨x,t,rfl,rfl⟩
    · exact wpAny_pyHash_int h
    · exact wpAny_pyHash_str h
  eqBool:=fun hu hv h=>by
    rcases keyIs_shape hu with ⟨i,t,rfl,rfl⟩ | ⟨x,t,rfl,rfl⟩
    · rcases keyIs_shape hv with ⟨j,u,rfl,rfl⟩ | ⟨y,u,rfl,rfl⟩
      · rw [key_ll] at h; exact wpAny_eqBool_int h
      · rw [key_lr] at h; exact SeqAt.EqAt.int_str i t y u _ _ _ _ h
    · rcases keyIs_shape hv with ⟨j,u,rfl,rfl⟩ | ⟨y,u,rfl,rfl⟩
      · rw [key_rl] at h; exact SeqAt.EqAt.str_int x t j u _ _ _ _ h
      · rw [key_rr] at h; exact wpAny_eqBool_str h
  «strs»:=fun k x t v h=>by
    rcases keyIs_shape h with ⟨i,u,rfl,e⟩ | ⟨y,u,rfl,e⟩
    · exact nomatch e
    · injection e with e1 _
      subst e1
      cases v <;> rfl
theorem mixKind_int (prog:Program) (w:World) (i:Int) (t:Tok):(mixKind prog w).is (.inl i) (.int i t)=true:=keyIs_int i t
theorem mixKind_str (prog:Program) (w:World) (x:Str) (t:Tok):(mixKind prog w).is (.inr x) (.str x t)=true:=keyIs_str x t
inductive V where
  | non | bl (b:Bool) | int (i:Int) | str (x:Str) | byt (b:Array UInt8) | flt (b:UInt64) | ref (a:Addr) | ty (n:String)
  deriving DecidableEq
noncomputable def RelV:V→Value→Prop
  | .non,u=>u=Value.none
  | .bl b,u=>u=Value.bool b
  | .int i,u=>∃ t,u=Value.int i t
  | .str x,u=>∃ t,u=Value.str x t
  | .byt b,u=>∃ t,u=Value.bytes b t
  | .flt b,u=>∃ t,u=Value.float b t
  | .ref a,u=>u=Value.ref a
  | .ty n,u=>u=Value.type n
noncomputable abbrev Vals:List V→List Value→Prop:=Paired RelV
theorem Vals.length {xs:List V} {us:List Value} (r:Vals xs us):xs.length=us.length:=Paired.length r
theorem Vals.get:∀ {xs:List V} {us:List Value} {i:Nat} {x:V},Vals xs us→xs[i]?=some x→∃ u,us[i]?=some u∧RelV x u
  | _,_,_,_,.nil,e=>by simp at e
  | _,_,0,_,.cons r _,e=>by simp at e; subst e; exact ⟨_,rfl,r⟩
  | _,_,i + 1,x,.cons _ t,e=>by
    obtain ⟨u,h1,h2⟩:=Vals.get (i:=i) (x:=x) t (by simpa using e)
    exact ⟨u,by simpa using h1,h2⟩
theorem Vals.set {x:V} {u:Value} (r:RelV x u):∀ {xs:List V} {us:List Value} (i:Nat),Vals xs us→Vals (xs.set i x) (us.set i u)
  | _,_,_,.nil=>.nil
  | _,_,0,.cons _ t=>.cons r t
  | _,_,i + 1,.cons q t=>.cons q (Vals.set r i t)
theorem Vals.append:∀ {xs ys:List V} {us ws:List Value},Vals xs us→Vals ys ws→Vals (xs++ys) (us++ws)
  | _,_,_,_,.nil,s=>s
  | _,_,_,_,.cons r t,s=>.cons r (Vals.append t s)
theorem Vals.take:∀ {xs:List V} {us:List Value} (n:Nat),Vals xs us→Vals (xs.take n) (us.take n)
  | _,_,0,_=>.nil
  | _,_,_ + 1,.nil=>.nil
  | _,_,n + 1,.cons r t=>.cons r (Vals.take n t)
theorem Vals.drop:∀ {xs:List V} {us:List Value} (n:Nat),Vals xs us→Vals (xs.drop n) (us.drop n)
  | _,_,0,r=>r
  | _,_,_ + 1,.nil=>.nil
  | _,_,n + 1,.cons _ t=>Vals.drop n t
noncomputable def RelO:Option V→Option Value→Prop
  | some v,some u=>RelV v u
  | none,none=>True
  | _,_=>False
noncomputable def KV {κ:Type}:List (κ×V)→List (κ×Value)→Prop:=Paired fun (p:κ×V) (q:κ×Value)=>p.1=q.1∧RelV p.2 q.2
noncomputable def kV:Key→V
  | .inl i=>.int i
  | .inr x=>.str x
inductive HO where
  | lst (xs:List V)
  | tup (xs:List V)
  | dK (kvs:List (Key×V)) | dT (kvs:List (List Key×V))
  | set (S:Int→Bool) (n:Nat)
  | ins (C dx:Addr) (fs:List (Str×V))
  | own (x:Addr)
  | xd (fs:List (Str×V))
  | met (f x:Addr)
  | rng (lo hi:Int)
  | frz (o:Obj) (u:HO)
  | tbl (ps:Array Value)
  | ext (φ:Heap→Prop)
noncomputable abbrev Hp:=Addr→Option HO
noncomputable def upd (H:Hp) (a:Addr) (o:HO):Hp:=fun b=>if b=a then some o else H b
theorem upd_same {H:Hp} {a:Addr} {o:HO}:upd H a o a=some o:=by unfold upd; rw [if_pos rfl]
theorem upd_ne {H:Hp} {a b:Addr} {o:HO} (h:b≠a):upd H a o b=H b:=by unfold upd; rw [if_neg h]
theorem ne_of_none {H:Hp} {a b:Addr} {o:HO} (h:H a=some o) (h':H b=none):a≠b:=by
  intro e; subst e; rw [h] at h'; cases h'
section
variable (P:Program) (w:World)
noncomputable def ObjOk (H:Hp) (h:Heap) (a:Addr):HO→Prop
  | .lst xs=>xs.length≤sizeLine∧∃ (its:List Value) (n:Nat),Vals xs its∧h.get? a=some {cls:=.type "list",data:=.seq its.toArray n}
  | .tup xs=>xs.length≤sizeLine∧∃ its:List Value,Vals xs its∧IsTup h a its.toArray
  | .dK kvs=>kvs.length≤sizeLine∧(a == sysModules)=false∧∃ vs,KV kvs vs∧h.DictOf (mixKind P w) a vs
  | .dT kvs=>kvs.length≤sizeLine∧(a == sysModules)=false∧∃ xs:List (List Key×Addr×Value),
      Paired (fun (p:List Key×V) (q:List Key×Addr×Value)=>p.1=q.1∧H q.2.1=some (.tup (p.1.map kV))∧RelV p.2 q.2.2) kvs xs ∧
      ∃ o es ep,h.get? a=some o∧o.ExactDict∧o.data=.dict es ep∧es.toList=xs.map (entryOfKey (tupleKind (mixKind P w)))∧(xs.map (·.1)).Nodup
  | .set S n=>h.SetOf (intKind P w) a S n
  | .ins C dx fs=>H dx=some (.own a)∧fs.length≤1000∧dx≠a∧h.get? a=some (PySem.W.instObj C dx) ∧
      ∃ mA,h.Ns1 dx mA∧(∀ f,RelO (fs.lookup f) (mA f))∧PySem.Within mA (fs.map (·.1))
  | .own _=>∃ o,h.get? a=some o
  | .xd fs=>∃ mA,h.Ns1 a mA∧∀ f,RelO (fs.lookup f) (mA f)
  | .rng lo hi=>∃ t u v,h.get? a=some {cls:=.type "range",data:=.fields #[.int lo t,.int hi u,.int 1 v]}
  | .frz o u=>h.get? a=some o∧ObjOk H h a u
  | .tbl ps=>h.get? a=some {cls:=.none,data:=.fields ps}
  | .met f x=>h.get? a=some (PySem.W.methodObj (.ref f) (.ref x))
  | .ext φ=>φ h∧(∃ o,h.get? a=some o)∧∀ h1 h2:Heap,φ h1→(∀ o,h1.get? a=some o→h2.get? a=some o)→φ h2
noncomputable def HOk (H:Hp) (h:Heap):Prop:=∀ a o,H a=some o→ObjOk P w H h a o
end
section
variable {P:Program} {w:World} {H H':Hp} {h h':Heap} {a:Addr} {o:HO}
theorem ObjOk.lt (x:ObjOk P w H h a o):a < h.objs.size:=by
  cases o with
  | lst xs=>obtain ⟨_,_,_,_,e⟩:=x; exact Heap.lt_size e
  | tup xs=>obtain ⟨_,_,_,p⟩:=x; exact p.lt
  | dK kvs=>obtain ⟨_,_,_,_,o,_,_,e,_⟩:=x; exact Heap.lt_size e
  | dT kvs=>obtain ⟨_,_,_,_,o,_,_,e,_⟩:=x; exact Heap.lt_size e
  | set S n=>obtain ⟨o,_,_,_,e,_⟩:=x; exact Heap.lt_size e
  | ins C dx fs=>obtain ⟨_,_,_,e,_⟩:=x; exact Heap.lt_size e
  | own y=>obtain ⟨_,e⟩:=x; exact Heap.lt_size e
  | xd fs=>obtain ⟨_,⟨_,_,_,e,_⟩,_⟩:=x; exact Heap.lt_size e
  | rng lo hi=>obtain ⟨_,_,_,e⟩:=x; exact Heap.lt_size e
  | frz ob u=>obtain ⟨e,_⟩:=x; exact Heap.lt_size e
  | tbl ps=>exact Heap.lt_size (show h.get? a=some _ from x)
  | met f y=>exact Heap.lt_size (show h.get? a=some _ from x)
  | ext φ=>obtain ⟨_,⟨_,e⟩,_⟩:=x; exact Heap.lt_size e
theorem Paired.mapP {α β:Type} {F G:α→β→Prop}:∀ {l₁:List α} {l₂:List β},Paired F l₁ l₂→(∀ a b,F a b→G a b)→Paired G l₁ l₂
  | _,_,.nil,_=>.nil
  | _,_,.cons r t,f=>.cons (f _ _ r) (Paired.mapP t f)
theorem ObjOk.stay (x:ObjOk P w H h a o) (k:∀ b u,(b=a∨H b=some (.own a))→h.get? b=some u→h'.get? b=some u)
    (ho:∀ b,H b=some (.own a)→H' b=some (.own a)) (ht:∀ b xs,H b=some (.tup xs)→H' b=some (.tup xs)):ObjOk P w H' h' a o:=by
  induction o with
  | lst xs=>obtain ⟨z,its,n,r,e⟩:=x; exact ⟨z,its,n,r,k _ _ (.inl rfl) e⟩
  | tup xs=>obtain ⟨z,its,r,ob,e,c⟩:=x; exact ⟨z,its,r,ob,k _ _ (.inl rfl) e,c⟩
  | dK kvs=>obtain ⟨z,y,vs,r,ob,es,ep,e,c⟩:=x; exact ⟨z,y,vs,r,ob,es,ep,k _ _ (.inl rfl) e,c⟩
  | dT kvs =>
    obtain ⟨z,y,xs,r,ob,es,ep,e,c⟩:=x
    exact ⟨z,y,xs,Paired.mapP r fun p q z=>⟨z.1,ht _ _ z.2.1,z.2.2⟩,ob,es,ep,k _ _ (.inl rfl) e,c⟩
  | set S n=>obtain ⟨ob,es,ep,t,e,c⟩:=x; exact ⟨ob,es,ep,t,k _ _ (.inl rfl) e,c⟩
  | ins C dx fs =>
    obtain ⟨d,z,ne,e,mA,⟨od,es,ep,e2,c⟩,r⟩:=x
    exact ⟨ho _ d,z,ne,k _ _ (.inl rfl) e,mA,⟨od,es,ep,k _ _ (.inr d) e2,c⟩,r⟩
  | own y=>obtain ⟨ob,e⟩:=x; exact ⟨ob,k _ _ (.inl rfl) e⟩
  | xd fs=>obtain ⟨mA,⟨od,es,ep,e,c⟩,r⟩:=x; exact ⟨mA,⟨od,es,ep,k _ _ (.inl rfl) e,c⟩,r⟩
  | rng lo hi=>obtain ⟨t,u,v,e⟩:=x; exact ⟨t,u,v,k _ _ (.inl rfl) e⟩
  | frz ob u ih=>obtain ⟨e,q⟩:=x; exact ⟨k _ _ (.inl rfl) e,ih q⟩
  | tbl ps =>
    have e:h.get? a=some {cls:=.none,data:=.fields ps}:=x
    show h'.get? a=some {cls:=.none,data:=.fields ps}
    exact k a _ (.inl rfl) e
  | met f y =>
    have e:h.get? a=some (PySem.W.methodObj (.ref f) (.ref y)):=x
    show h'.get? a=some (PySem.W.methodObj (.ref f) (.ref y))
    exact k a _ (.inl rfl) e
  | ext φ=>obtain ⟨p,⟨o,e⟩,st⟩:=x; exact ⟨st _ _ p fun o q=>k _ _ (.inl rfl) q,⟨o,k _ _ (.inl rfl) e⟩,st⟩
theorem HOk.lt (x:HOk P w H h) (e:H a=some o):a < h.objs.size:=(x a o e).lt
theorem HOk.fresh (x:HOk P w H h) (e:h.objs.size≤a):H a=none:=by
  cases q:H a with
  | none=>rfl
  | some u=>exact absurd (Nat.lt_of_lt_of_le (x.lt q) e) (Nat.lt_irrefl _)
theorem HOk.kept (x:HOk P w H h) (k:∀ b u,h.get? b=some u→h'.get? b=some u):HOk P w H h':=fun a o e =>
  (x a o e).stay (fun b u _ q=>k b u q) (fun _ q=>q) fun _ _ q=>q
theorem HOk.laid (x:HOk P w H h) (k:∀ b u,h.get? b=some u→h'.get? b=some u) (hp:h.objs.size≤a) (new:ObjOk P w (upd H a o) h' a o):HOk P w (upd H a o) h':=fun b u e=>by
  have hn:=x.fresh hp
  by_cases hb:b=a
  · subst hb; rw [upd_same] at e; cases e; exact new
  · rw [upd_ne hb] at e
    exact (x b u e).stay (fun c v _ q=>k c v q) (fun c q=>by rw [upd_ne (ne_of_none q hn)]; exact q) fun c xs q=>by rw [upd_ne (ne_of_none q hn)]; exact q
end
noncomputable def Rd (H:Hp) (a:Addr) (u:HO):Prop:=H a=some u∨∃ o,H a=some (.frz o u)
theorem Rd.of {H:Hp} {a:Addr} {u:HO} (h:H a=some u):Rd H a u:=.inl h
theorem Rd.ok {P:Program} {w:World} {H:Hp} {h:Heap} {a:Addr} {u:HO} (r:Rd H a u) (x:HOk P w H h):ObjOk P w H h a u:=by
  rcases r with r | ⟨o,r⟩
  · exact x a u r
  · obtain ⟨_,q⟩:=x a _ r
    exact q
noncomputable def Mut:Option HO→Prop
  | some (.lst _)=>True
  | some (.dK _)=>True
  | some (.dT _)=>True
  | some (.set _ _)=>True
  | some (.ins _ _ _)=>True
  | some (.ext _)=>True
  | _=>False
section
variable {P:Program} {w:World} {H:Hp} {h h':Heap} {x e:Addr} {o':HO}
theorem HOk.write (ok:HOk P w H h) (mu:Mut (H x)) (he:e=x∨H e=some (.own x)) (k:∀ b u,b≠e→h.get? b=some u→h'.get? b=some u) (heo:∃ u,h'.get? e=some u)
    (new:ObjOk P w (upd H x o') h' x o'):HOk P w (upd H x o') h':=fun b u q=>by
  have nown:∀ c y,H c=some (.own y)→c≠x:=fun c y r z=>by subst z; rw [r] at mu; exact mu
  have ntup:∀ c xs,H c=some (.tup xs)→c≠x:=fun c xs r z=>by subst z; rw [r] at mu; exact mu
  by_cases hb:b=x
  · subst hb; rw [upd_same] at q; cases q; exact new
  · rw [upd_ne hb] at q
    by_cases hbe:b=e
    · have q':H b=some (.own x):=by
        rcases he with z | z
        · exact absurd (hbe.trans z) hb
        · rw [hbe]; exact z
      rw [q] at q'; cases q'
      obtain ⟨v,hv⟩:=heo
      exact ⟨v,by rw [hbe]; exact hv⟩
    · refine (ok b u q).stay (fun c v hc r=>k c v ?_ r) (fun c r=>by rw [upd_ne (nown c b r)]; exact r) fun c xs r=>by rw [upd_ne (ntup c xs r)]; exact r
      rcases hc with rfl | hc
      · exact hbe
      · rintro rfl
        rcases he with z | z
        · exact nown c b hc z
        · rw [hc] at z; cases z; exact hb rfl
end
structure Un (fs ex:List Addr) (H H':Hp) (h h':Heap):Prop where
  keep:∀ b o,h.get? b=some o→H b=none→b∉fs→b∉ex→h'.get? b=some o
  slot:∀ b o,h.get? b=some o→H b=none→b∈fs→b∉ex→∃ sl,h'.get? b=some {o with slots:=sl}
  free:∀ b o,h.get? b=some o→H b=none→b∉ex→H' b=none
  there:∀ b o,h.get? b=some o→b∉ex→∃ o',h'.get? b=some o'
  tups:∀ b xs,H b=some (.tup xs)→H' b=some (.tup xs)
  frzs:∀ b o u,H b=some (.frz o u)→H' b=some (.frz o u)
  tbls:∀ b ps,H b=some (.tbl ps)→∃ more,H' b=some (.tbl (ps++more))
section
variable {fs fs' ex ex':List Addr} {H H1 H2:Hp} {h h1 h2 h':Heap} {a x e:Addr} {o:HO}
theorem Un.any (u:Un fs ex H H1 h h1) {b:Addr} {ob:Obj} (q:h.get? b=some ob) (n:H b=none) (hx:b∉ex):∃ sl,h1.get? b=some {ob with slots:=sl}:=by
  by_cases hb:b∈fs
  · exact u.slot b ob q n hb hx
  · exact ⟨ob.slots,u.keep b ob q n hb hx⟩
theorem Un.kept (k:∀ b u,h.get? b=some u→h'.get? b=some u):Un fs ex H H h h' :=
  ⟨fun b ob q _ _ _=>k b ob q,fun b ob q _ _ _=>⟨ob.slots,k b ob q⟩,fun _ _ _ n _=>n,fun b ob q _=>⟨ob,k b ob q⟩,fun _ _ q=>q,fun _ _ _ q=>q,fun _ ps q=>⟨#[],by rw [q]; simp⟩⟩
theorem Un.refl:Un fs ex H H h h:=Un.kept fun _ _ q=>q
theorem Un.laid (k:∀ b u,h.get? b=some u→h'.get? b=some u) (hp:h.objs.size≤a) (hn:H a=none):Un fs ex H (upd H a o) h h' where
  keep:=fun b u q _ _ _=>k b u q
  slot:=fun b u q _ _ _=>⟨u.slots,k b u q⟩
  free:=fun b u q n _=>by rw [upd_ne (Nat.ne_of_lt (Nat.lt_of_lt_of_le (Heap.lt_size q) hp))]; exact n
  there:=fun b u q _=>⟨u,k b u q⟩
  tups:=fun b xs q=>by rw [upd_ne (ne_of_none q hn)]; exact q
  frzs:=fun b u xs q=>by rw [upd_ne (ne_of_none q hn)]; exact q
  tbls:=fun b ps q=>⟨#[],by rw [upd_ne (ne_of_none q hn),q]; simp⟩
theorem Un.write (mu:Mut (H x)) (he:e=x∨H e=some (.own x)) (k:∀ b u,b≠e→h.get? b=some u→h'.get? b=some u) (heo:∃ u,h'.get? e=some u):Un fs ex H (upd H x o) h h':=by
  have hx:∀ b,H b=none→b≠x:=fun b n z=>by subst z; rw [n] at mu; exact mu
  have hb:∀ b,H b=none→b≠e:=fun b n z=>by
    subst z
    rcases he with r | r
    · exact hx b n r
    · rw [n] at r; cases r
  have hm:∀ b u,H b=some u→¬ Mut (some u)→b≠x:=fun b u q nm z=>by subst z; rw [q] at mu; exact nm mu
  refine ⟨fun b u q n _ _=>k b u (hb b n) q,fun b u q n _ _=>⟨u.slots,k b u (hb b n) q⟩,fun b u q n _=>by rw [upd_ne (hx b n)]; exact n,fun b u q _=>?_,
    fun b xs q=>by rw [upd_ne (hm b _ q fun z=>z)]; exact q,fun b u xs q=>by rw [upd_ne (hm b _ q fun z=>z)]; exact q,fun b ps q=>⟨#[],by rw [upd_ne (hm b _ q fun z=>z),q]; simp⟩⟩
  by_cases hbe:b=e
  · subst hbe; exact heo
  · exact ⟨u,k b u hbe q⟩
end
noncomputable def trk (h:Heap) (H:Hp):List Addr:=(List.range h.objs.size).filter fun a=>(H a).isSome
noncomputable def hidT (h:Heap) (H:Hp):Heap:=PySem.W.hideAll h (trk h H)
theorem hidT_size (h:Heap) (H:Hp):(hidT h H).objs.size=h.objs.size:=PySem.W.hideAll_size _ _
theorem hidT_get {h:Heap} {H:Hp} {b:Addr} {o:Obj} (e:h.get? b=some o) (n:H b=none):(hidT h H).get? b=some o :=
  PySem.W.hideAll_get _ e fun hm=>by
    have q:(H b).isSome=true:=(List.mem_filter.mp hm).2
    rw [n] at q; simp at q
theorem of_hidT {h:Heap} {H:Hp} {b:Addr} {o:Obj} (e:(hidT h H).get? b=some o):h.get? b=some o∧H b=none:=by
  have e':h.get? b=some o:=PySem.W.of_hideAll (trk h H) e
  refine ⟨e',?_⟩
  cases q:H b with
  | none=>rfl
  | some x =>
    have hm:b∈trk h H:=List.mem_filter.mpr ⟨List.mem_range.mpr (Heap.lt_size e'),by simp [q]⟩
    have z:(hidT h H).get? b=none:=PySem.W.hideAll_none (trk h H) hm
    rw [z] at e; cases e
structure Mod (K:PySem.W.Frag) (mg:Str→Option Value) (base:Heap):Prop where
  kin:K.In base
  glob:base.Ns mainGlobals mg
  blt:∃ mb,base.Ns builtinsNs mb∧∀ x:Str,x≠"__name__"→mb x=bootBuiltins x
  nolimit:base.NoLimit
structure Cx where
  prog:Program
  w:World
  K:PySem.W.Frag
  mg:Str→Option Value
  base:Heap
  A:Around
  N:List Str
  s₀:Shared
  H₀:Hp
  env:Env
  outer:List Env
  stack:List Env
  ex:List Addr
  fn:Str→Bool
  calm:Bool
  pn:List (Addr×Obj)
  xe:Value→Shared→Prop
noncomputable def frs (l:List Env):List Addr:=l.filterMap (·.frame)
noncomputable abbrev Cx.fs (X:Cx):List Addr:=frs X.outer
noncomputable def Vis (sc:Scope) (x:Str):Prop:=sc.names.lookup x=some .local∨sc.names.lookup x=some .cell∨sc.names.lookup x=some .free
noncomputable def Loc (sc:Scope) (x:Str):Prop:=sc.names.lookup x=some .local∨sc.names.lookup x=some .cell
noncomputable def Look (env:Env) (h:Heap) (m:Str→Option Value) (x:Str) (u:Value):Prop :=
  (env.kindOf x=some .local∧m x=some u)∨((env.kindOf x=some .cell∨env.kindOf x=some .free)∧∃ c,env.cells.lookup x=some c∧h.IsCell c (some u))
structure Cx.Ok (X:Cx):Prop where
  mod:Mod X.K X.mg X.base
  kind:X.env.scope.kind=.function
  glob:X.env.globals=mainGlobals
  blt:X.env.builtins=builtinsNs
  above:X.s₀.heap.objs.size≤X.env.locals
  inj:∀ x y c,X.env.cells.lookup x=some c→X.env.cells.lookup y=some c→x=y
  has:∀ x,(X.env.kindOf x=some .cell∨X.env.kindOf x=some .free)→∃ c,X.env.cells.lookup x=some c
  cab:∀ x c,X.fn x=true→X.env.cells.lookup x=some c→X.s₀.heap.objs.size≤c
  hd:X.calm=true→X.A.handled=none
  frames:X.A.frames=some X.stack
  stk:X.stack=X.outer∨(X.stack=X.env::X.outer∧X.env.frame=some X.env.locals)
  exf:∀ b∈X.ex,b≠X.env.locals∧∀ x c,X.env.cells.lookup x=some c→c≠b
  bs:∀ b o,X.base.get? b=some o→X.s₀.heap.get? b=some o∧X.H₀ b=none
  bsz:X.base.objs.size≤X.s₀.heap.objs.size
  noex:∀ b o,X.base.get? b=some o→b∉X.ex
  exfs:∀ b∈X.ex,b∉X.fs
  funs:X.s₀.heap.FunFrames X.base X.outer
  frf:∀ b∈X.fs,X.H₀ b=none
structure Inv (X:Cx) (pins:List (Addr×Obj)) (σ:List (Option V)) (H:Hp) (s:Shared):Prop where
  ok:X.Ok
  os:s.os=X.s₀.os
  bare:AllBare s.gens
  base:Un X.fs X.ex X.H₀ H X.s₀.heap s.heap
  loc:∃ m,s.heap.Ns X.env.locals m∧∀ (i:Nat) (x:Str) (v:V),X.N[i]?=some x→σ[i]?=some (some v)→Vis X.env.scope x→∃ u,RelV v u∧Look X.env s.heap m x u
  cell:∀ x c,X.env.cells.lookup x=some c→∃ v,s.heap.IsCell c v
  free:H X.env.locals=none
  freeC:∀ x c,X.env.cells.lookup x=some c→H c=none
  pin:∀ p∈X.pn++pins,s.heap.get? p.1=some p.2∧H p.1=none∧p.1≠X.env.locals∧p.1∉X.fs∧∀ v,p.2.data≠.cell v
  hok:HOk X.prog X.w H s.heap
  len:σ.length=X.N.length
section
variable {X:Cx} {pins:List (Addr×Obj)} {σ:List (Option V)} {H H':Hp} {s:Shared} {h':Heap}
theorem Cx.Ok.nofr (ok:X.Ok) {b:Addr} {o:Obj} (e:X.base.get? b=some o):b∉X.fs:=fun hb=>by
  have:=(ok.funs.mem hb).1
  rw [e] at this; cases this
theorem Inv.bs (I:Inv X pins σ H s):∀ b o,X.base.get? b=some o→s.heap.get? b=some o∧H b=none:=fun b o e =>
  ⟨I.base.keep b o (I.ok.bs b o e).1 (I.ok.bs b o e).2 (I.ok.nofr e) (I.ok.noex b o e),I.base.free b o (I.ok.bs b o e).1 (I.ok.bs b o e).2 (I.ok.noex b o e)⟩
theorem Inv.bk (I:Inv X pins σ H s):∀ b o,X.base.get? b=some o→s.heap.get? b=some o:=fun b o e=>(I.bs b o e).1
theorem Inv.mod (I:Inv X pins σ H s):Mod X.K X.mg X.base:=I.ok.mod
theorem Inv.kIn (I:Inv X pins σ H s):X.K.In s.heap:=I.ok.mod.kin.keeps I.bk
theorem Inv.lt (I:Inv X pins σ H s):X.env.locals < s.heap.objs.size:=let ⟨_,hn,_⟩:=I.loc; hn.lt
theorem Inv.sz (I:Inv X pins σ H s):X.s₀.heap.objs.size≤s.heap.objs.size:=Nat.le_trans I.ok.above (Nat.le_of_lt I.lt)
theorem Inv.nofs (I:Inv X pins σ H s) {a:Addr} (h:s.heap.objs.size≤a):a∉X.fs:=fun hb=>by
  obtain ⟨_,o,ho,_⟩:=I.ok.funs.mem hb
  exact absurd (Nat.lt_of_lt_of_le (Heap.lt_size ho) (Nat.le_trans I.sz h)) (Nat.lt_irrefl _)
theorem Inv.cne (I:Inv X pins σ H s):∀ x c,X.env.cells.lookup x=some c→c≠X.env.locals:=fun x c e z=>by
  obtain ⟨v,o,ho,hd⟩:=I.cell x c e
  obtain ⟨m,⟨o',es,ep,ho',hd',_⟩,_⟩:=I.loc
  rw [z,ho'] at ho; cases ho; rw [hd'] at hd; cases hd
theorem Inv.funs (I:Inv X pins σ H s):s.heap.FunFrames X.base X.outer:=by
  have all:∀ (l:List Env),(∀ b∈frs l,b∈X.fs)→X.s₀.heap.FunFrames X.base l→s.heap.FunFrames X.base l:=by
    intro l
    induction l with
    | nil=>intro _ _; trivial
    | cons env r ih =>
      intro hs hl
      obtain ⟨hk,⟨L,o,hf,hn,ho,hd⟩,hr⟩:=hl
      have hL:L∈X.fs:=hs L (by unfold frs; rw [List.filterMap_cons,hf]; exact List.mem_cons_self)
      obtain ⟨sl,e⟩:=I.base.slot L o ho (I.ok.frf L hL) hL fun z=>I.ok.exfs L z hL
      exact ⟨hk,⟨L,_,hf,hn,e,hd⟩,ih (fun b hb=>hs b (by unfold frs; rw [List.filterMap_cons,hf]; exact List.mem_cons_of_mem _ hb)) hr⟩
  exact all X.outer (fun _ hb=>hb) I.ok.funs
theorem Inv.stack (I:Inv X pins σ H s):s.heap.FunFrames X.base X.stack:=by
  rcases I.ok.stk with e | ⟨e,hf⟩
  · rw [e]; exact I.funs
  · rw [e]
    obtain ⟨m,hn,_⟩:=I.loc
    refine .cons (by rw [I.ok.kind]; decide) hf hn ?_ I.funs
    exact Heap.get?_none_of_le (Nat.le_trans I.ok.bsz I.ok.above)
theorem Inv.stkSub (I:Inv X pins σ H s):∀ b∈frs X.stack,b∈X.env.locals::X.fs:=fun b hb=>by
  rcases I.ok.stk with e | ⟨e,hf⟩
  · rw [e] at hb; exact List.mem_cons_of_mem _ hb
  · rw [e] at hb
    unfold frs at hb
    rw [List.filterMap_cons,hf] at hb
    exact hb
theorem Inv.stkFree (I:Inv X pins σ H s):∀ b∈frs X.stack,H b=none:=fun b hb=>by
  rcases List.mem_cons.mp (I.stkSub b hb) with e | hb
  · rw [e]; exact I.free
  · obtain ⟨_,o,ho,_⟩:=I.ok.funs.mem hb
    exact I.base.free b o ho (I.ok.frf b hb) fun z=>I.ok.exfs b z hb
theorem Inv.step {g':Array GenState} {t':Nat} {d':Drawn} {ch:List Addr} (I:Inv X pins σ H s)
    (hch:∀ b∈ch,(b∈X.ex∨X.s₀.heap.objs.size≤b)∧b≠X.env.locals∧(∀ x c,X.env.cells.lookup x=some c→c≠b)∧∀ p∈X.pn++pins,p.1≠b)
    (keep:∀ b o,b≠X.env.locals→b∉X.fs→b∉ch→s.heap.get? b=some o→H b=none→h'.get? b=some o)
    (slot:∀ b o,b≠X.env.locals→b∈X.fs→b∉ch→s.heap.get? b=some o→H b=none→∃ sl,h'.get? b=some {o with slots:=sl}) (free:∀ b o,b∉ch→s.heap.get? b=some o→H b=none→H' b=none)
    (there:∀ b o,b∉ch→s.heap.get? b=some o→∃ o',h'.get? b=some o')
    (tups:∀ b xs,H b=some (.tup xs)→H' b=some (.tup xs)) (frzs:∀ b o u,H b=some (.frz o u)→H' b=some (.frz o u)) (tbls:∀ b ps,H b=some (.tbl ps)→∃ more,H' b=some (.tbl (ps++more)))
    (ns:∀ m,s.heap.Ns X.env.locals m→h'.Ns X.env.locals m) (hok:HOk X.prog X.w H' h') (hg:AllBare g') :
    Inv X pins σ H' {s with heap:=h',gens:=g',drawn:=d',toks:=t'}:=by
  have neL:∀ b o,X.s₀.heap.get? b=some o→b≠X.env.locals:=fun b o e=>Nat.ne_of_lt (Nat.lt_of_lt_of_le (Heap.lt_size e) I.ok.above)
  have neC:∀ b o,X.s₀.heap.get? b=some o→b∉X.ex→b∉ch:=fun b o e hx hb=>by
    rcases (hch b hb).1 with z | z
    · exact hx z
    · exact absurd (Nat.lt_of_lt_of_le (Heap.lt_size e) z) (Nat.lt_irrefl _)
  have cellK:∀ x c,X.env.cells.lookup x=some c→∀ v,s.heap.IsCell c v→h'.IsCell c v:=fun x c e v ⟨o,ho,hd⟩=>by
    have nch:c∉ch:=fun z=>(hch c z).2.2.1 x c e rfl
    by_cases hc:c∈X.fs
    · obtain ⟨sl,q⟩:=slot c o (I.cne x c e) hc nch ho (I.freeC x c e)
      exact ⟨_,q,hd⟩
    · exact ⟨o,keep c o (I.cne x c e) hc nch ho (I.freeC x c e),hd⟩
  refine ⟨I.ok,I.os,hg,⟨fun b o e n hb hx=>?_,fun b o e n hb hx=>?_,fun b o e n hx=>?_,fun b o e hx=>?_,fun b xs e=>tups b xs (I.base.tups b xs e),fun b o xs e=>frzs b o xs (I.base.frzs b o xs e),fun b ps e=>?_⟩,?_,fun x c e=>?_,?_,fun x c e=>?_,fun p hp=>?_,hok,I.len⟩
  · exact keep b o (neL b o e) hb (neC b o e hx) (I.base.keep b o e n hb hx) (I.base.free b o e n hx)
  · obtain ⟨sl,e1⟩:=I.base.slot b o e n hb hx
    obtain ⟨sl',e2⟩:=slot b _ (neL b o e) hb (neC b o e hx) e1 (I.base.free b o e n hx)
    exact ⟨sl',e2⟩
  · obtain ⟨o',e1⟩:=I.base.there b o e hx
    exact free b o' (neC b o e hx) e1 (I.base.free b o e n hx)
  · obtain ⟨o',e1⟩:=I.base.there b o e hx
    exact there b o' (neC b o e hx) e1
  · obtain ⟨m1,e1⟩:=I.base.tbls b ps e
    obtain ⟨m2,e2⟩:=tbls b _ e1
    exact ⟨m1++m2,by rw [e2,Array.append_assoc]⟩
  · obtain ⟨m,hn,hl⟩:=I.loc
    refine ⟨m,ns m hn,fun i x v e1 e2 e3=>?_⟩
    obtain ⟨u,r,l⟩:=hl i x v e1 e2 e3
    refine ⟨u,r,?_⟩
    rcases l with l | ⟨k,c,e,z⟩
    · exact .inl l
    · exact .inr ⟨k,c,e,cellK x c e _ z⟩
  · obtain ⟨v,z⟩:=I.cell x c e
    exact ⟨v,cellK x c e v z⟩
  · obtain ⟨m,⟨o,_,_,ho,_⟩,_⟩:=I.loc
    exact free _ o (fun z=>(hch _ z).2.1 rfl) ho I.free
  · obtain ⟨v,o,ho,hd⟩:=I.cell x c e
    exact free c o (fun z=>(hch c z).2.2.1 x c e rfl) ho (I.freeC x c e)
  · obtain ⟨e,n,ne,nf,d⟩:=I.pin p hp
    have nch:p.1∉ch:=fun z=>(hch p.1 z).2.2.2 p hp rfl
    exact ⟨keep p.1 p.2 ne nf nch e n,free p.1 p.2 nch e n,ne,nf,d⟩
theorem Inv.un {t':Nat} (I:Inv X pins σ H s) (u:Un X.fs [] H H' s.heap h') (hok:HOk X.prog X.w H' h'):Inv X pins σ H' {s with heap:=h',toks:=t'}:=by
  obtain ⟨m,⟨o,es,ep,ho,r⟩,_⟩:=id I.loc
  obtain ⟨sl,hL⟩:=u.any ho I.free (by simp)
  exact I.step (g':=s.gens) (d':=s.drawn) (ch:=[]) (fun _ z=>nomatch z) (fun b o _ hb _ e n=>u.keep b o e n hb (by simp)) (fun b o _ hb _ e n=>u.slot b o e n hb (by simp)) (fun b o _ e n=>u.free b o e n (by simp)) (fun b o _ e=>u.there b o e (by simp)) u.tups u.frzs u.tbls (fun m' hm=>by
    obtain ⟨o',es',ep',ho',r'⟩:=hm
    rw [ho] at ho'; cases ho'
    exact ⟨_,es',ep',hL,r'⟩) hok I.bare
theorem Inv.call {g':Array GenState} {t':Nat} {d':Drawn} {ch:List Addr} (I:Inv X pins σ H s) (u:Un (frs X.stack) ch H H' s.heap h') (hok:HOk X.prog X.w H' h') (hg:AllBare g')
    (hch:∀ b∈ch,(b∈X.ex∨X.s₀.heap.objs.size≤b)∧b≠X.env.locals∧(∀ x c,X.env.cells.lookup x=some c→c≠b)∧∀ p∈X.pn++pins,p.1≠b) :
    Inv X pins σ H' {s with heap:=h',gens:=g',drawn:=d',toks:=t'}:=by
  obtain ⟨m,⟨o,es,ep,ho,r⟩,_⟩:=id I.loc
  obtain ⟨sl,hL⟩:=u.any ho I.free fun z=>(hch _ z).2.1 rfl
  exact I.step (ch:=ch) hch (fun b o hL hb hc e n=>u.keep b o e n (fun z=>(List.mem_cons.mp (I.stkSub b z)).elim hL hb) hc) (fun b o _ _ hc e n=>u.any e n hc) (fun b o hc e n=>u.free b o e n hc) (fun b o hc e=>u.there b o e hc) u.tups u.frzs u.tbls (fun m' hm=>by
    obtain ⟨o',es',ep',ho',r'⟩:=hm
    rw [ho] at ho'; cases ho'
    exact ⟨_,es',ep',hL,r'⟩) hok hg
theorem Inv.turned {t':Nat} {it:Addr} (I:Inv X pins σ H s) (k:∀ b o,b≠it→s.heap.get? b=some o→h'.get? b=some o) (hn:H it=none) (hL:it≠X.env.locals)
    (h1:it∈X.ex∨X.s₀.heap.objs.size≤it) (h2:∀ x c,X.env.cells.lookup x=some c→c≠it) (h3:∀ p∈X.pn++pins,p.1≠it):Inv X pins σ H {s with heap:=h',toks:=t'}:=by
  have nit:∀ b u,H b=some u→b≠it:=fun b u e z=>by rw [z,hn] at e; cases e
  refine I.step (g':=s.gens) (d':=s.drawn) (ch:=[it]) (fun b hb=>?_) (fun b o _ _ hc e _=>k b o (fun z=>hc (by simp [z])) e) (fun b o _ _ hc e _=>⟨o.slots,k b o (fun z=>hc (by simp [z])) e⟩) (fun _ _ _ _ n=>n)
    (fun b o hc e=>⟨o,k b o (fun z=>hc (by simp [z])) e⟩) (fun _ _ e=>e) (fun _ _ _ e=>e) (fun b ps e=>⟨#[],by rw [e]; simp⟩) (fun m hm=>?_) (fun b u e=>?_) I.bare
  · have e:b=it:=by simpa using hb
    subst e
    exact ⟨h1,hL,h2,h3⟩
  · obtain ⟨o,es,ep,ho,r⟩:=hm
    exact ⟨o,es,ep,k _ o (Ne.symm hL) ho,r⟩
  · refine (I.hok b u e).stay (fun c v hc q=>k c v ?_ q) (fun _ q=>q) fun _ _ q=>q
    rcases hc with z | z
    · rw [z]; exact nit b u e
    · exact nit c _ z
theorem Inv.tok (I:Inv X pins σ H s) (t:Nat):Inv X pins σ H {s with toks:=t}:=I.un (h':=s.heap) (t':=t) Un.refl I.hok
theorem Inv.kept {t':Nat} (I:Inv X pins σ H s) (k:∀ b u,s.heap.get? b=some u→h'.get? b=some u):Inv X pins σ H {s with heap:=h',toks:=t'}:=I.un (Un.kept k) (I.hok.kept k)
theorem Inv.laid {a:Addr} {o:HO} {t':Nat} (I:Inv X pins σ H s) (k:∀ b u,s.heap.get? b=some u→h'.get? b=some u) (hp:s.heap.objs.size≤a) (new:ObjOk X.prog X.w (upd H a o) h' a o) :
    Inv X pins σ (upd H a o) {s with heap:=h',toks:=t'}:=I.un (Un.laid k hp (I.hok.fresh hp)) (I.hok.laid k hp new)
theorem Inv.write {x e:Addr} {o:HO} {t':Nat} (I:Inv X pins σ H s) (mu:Mut (H x)) (he:e=x∨H e=some (.own x)) (k:∀ b u,b≠e→s.heap.get? b=some u→h'.get? b=some u) (heo:∃ u,h'.get? e=some u)
    (new:ObjOk X.prog X.w (upd H x o) h' x o):Inv X pins σ (upd H x o) {s with heap:=h',toks:=t'}:=I.un (Un.write mu he k heo) (I.hok.write mu he k heo new)
theorem Inv.pins_of {pins':List (Addr×Obj)} (I:Inv X pins σ H s) (h:∀ p∈pins',s.heap.get? p.1=some p.2∧H p.1=none∧p.1≠X.env.locals∧p.1∉X.fs∧∀ v,p.2.data≠.cell v):Inv X pins' σ H s :=
  ⟨I.ok,I.os,I.bare,I.base,I.loc,I.cell,I.free,I.freeC,fun p hp=>(List.mem_append.mp hp).elim (fun z=>I.pin p (List.mem_append_left _ z)) (h p),I.hok,I.len⟩
theorem nodup_ix {N:List Str} (hN:N.Nodup) {i j:Nat} {x:Str} (a:N[i]?=some x) (b:N[j]?=some x):i=j:=by
  obtain ⟨h1,e1⟩:=List.getElem?_eq_some_iff.mp a
  obtain ⟨h2,e2⟩:=List.getElem?_eq_some_iff.mp b
  exact (List.getElem_inj hN).mp (e1.trans e2.symm)
theorem store_ok2 {M:Model} {A:Around} {E:Value→Shared→Prop} {i:Nat} {x:Str} {v:V} {u:Value} {Q:Unit→Shared→Prop} (I:Inv X pins σ H s) (hN:X.N.Nodup) (hi:X.N[i]?=some x) (hx:Loc X.env.scope x) (r:RelV v u)
    (h:∀ s',Inv X pins (σ.set i (some v)) H s'→(∃ a,Heap.SameBut a s.heap s'.heap∧(a=X.env.locals∨X.env.cells.lookup x=some a))→Q () s') (hf:X.fn x=true∨X.env.scope.names.lookup x=some .local:=by first | exact .inl rfl | exact .inr rfl | assumption):wpAny M A (storeName X.env x u) Q E s:=by
  obtain ⟨m,hn,hl⟩:=id I.loc
  have hcls:(X.env.scope.kind == .class || (X.env.scope.kind == .module&&X.env.locals != X.env.globals))=false:=by rw [I.ok.kind]; rfl
  have hiσ:i < σ.length:=by rw [I.len]; exact (List.getElem?_eq_some_iff.mp hi).1
  have cne:=I.cne
  have tracked:∀ {a:Addr} {h':Heap},(∃ o,s.heap.get? a=some o∧H a=none)→Heap.SameBut a s.heap h'→HOk X.prog X.w H h':=fun {a h'} ha hs b ob e=>by
    obtain ⟨_,_,hfree⟩:=ha
    refine (I.hok b ob e).stay (fun c w' hc q=>(hs.2 c ?_).trans q) (fun _ q=>q) fun _ _ q=>q
    rintro rfl
    rcases hc with rfl | hc
    · rw [hfree] at e; cases e
    · rw [hfree] at hc; cases hc
  rcases hx with hk | hk
  · refine wpAny_storeName_local hk hn (fun h' hn' hs=>?_) hcls
    obtain ⟨oL,_,_,hoL,_⟩:=id hn
    refine h _ ⟨I.ok,I.os,I.bare,⟨fun b o e n hb hx=>?_,fun b o e n hb hx=>?_,I.base.free,fun b o e hx=>?_,I.base.tups,I.base.frzs,I.base.tbls⟩,⟨_,hn',fun j y v' e1 e2 e3=>?_⟩,fun y c e=>?_,I.free,I.freeC,fun p hp=>?_,tracked ⟨oL,hoL,I.free⟩ hs,by simpa using I.len⟩ ⟨_,hs,.inl rfl⟩
    · exact (hs.2 b (Nat.ne_of_lt (Nat.lt_of_lt_of_le (Heap.lt_size e) I.ok.above))).trans (I.base.keep b o e n hb hx)
    · obtain ⟨sl,e1⟩:=I.base.slot b o e n hb hx
      exact ⟨sl,(hs.2 b (Nat.ne_of_lt (Nat.lt_of_lt_of_le (Heap.lt_size e) I.ok.above))).trans e1⟩
    · obtain ⟨o',e1⟩:=I.base.there b o e hx
      exact ⟨o',(hs.2 b (Nat.ne_of_lt (Nat.lt_of_lt_of_le (Heap.lt_size e) I.ok.above))).trans e1⟩
    · by_cases hj:j=i
      · subst hj
        rw [hi] at e1; cases e1
        rw [List.getElem?_set_self hiσ] at e2
        cases e2
        exact ⟨u,r,.inl ⟨hk,by simp⟩⟩
      · rw [List.getElem?_set_ne (Ne.symm hj)] at e2
        obtain ⟨u',r',q⟩:=hl j y v' e1 e2 e3
        refine ⟨u',r',?_⟩
        rcases q with ⟨k,e⟩ | ⟨k,c,e,z⟩
        · refine .inl ⟨k,?_⟩
          have:y≠x:=fun e=>hj (nodup_ix hN e1 (e ▸ hi))
          simp [this,e]
        · exact .inr ⟨k,c,e,z.sameBut hs (cne y c e)⟩
    · obtain ⟨w',z⟩:=I.cell y c e
      exact ⟨w',z.sameBut hs (cne y c e)⟩
    · obtain ⟨e,n,ne,nf,d⟩:=I.pin p hp
      exact ⟨(hs.2 p.1 ne).trans e,n,ne,nf,d⟩
  · have hfn:X.fn x=true:=by
      rcases hf with z | z
      · exact z
      · rw [z] at hk; cases hk
    obtain ⟨c,hc⟩:=I.ok.has x (.inl hk)
    obtain ⟨w',z⟩:=I.cell x c hc
    refine wpAny_storeName_cell I.ok.kind hk hc z (fun h' hc' hs=>?_)
    obtain ⟨oc,hoc,hocd⟩:=id z
    refine h {s with heap:=h'} ⟨I.ok,I.os,I.bare,⟨fun b o e n hb hx=>?_,fun b o e n hb hx=>?_,I.base.free,fun b o e hx=>?_,I.base.tups,I.base.frzs,I.base.tbls⟩,⟨m,hn.sameBut hs (Ne.symm (cne x c hc)),fun j y v' e1 e2 e3=>?_⟩,fun y c' e=>?_,I.free,I.freeC,fun p hp=>?_,tracked ⟨oc,hoc,I.freeC x c hc⟩ hs,by simpa using I.len⟩ ⟨c,hs,.inr hc⟩
    · exact (hs.2 b (Nat.ne_of_lt (Nat.lt_of_lt_of_le (Heap.lt_size e) (I.ok.cab x c hfn hc)))).trans (I.base.keep b o e n hb hx)
    · obtain ⟨sl,e1⟩:=I.base.slot b o e n hb hx
      exact ⟨sl,(hs.2 b (Nat.ne_of_lt (Nat.lt_of_lt_of_le (Heap.lt_size e) (I.ok.cab x c hfn hc)))).trans e1⟩
    · obtain ⟨o',e1⟩:=I.base.there b o e hx
      exact ⟨o',(hs.2 b (Nat.ne_of_lt (Nat.lt_of_lt_of_le (Heap.lt_size e) (I.ok.cab x c hfn hc)))).trans e1⟩
    · by_cases hj:j=i
      · subst hj
        rw [hi] at e1; cases e1
        rw [List.getElem?_set_self hiσ] at e2
        cases e2
        exact ⟨u,r,.inr ⟨.inl hk,c,hc,hc'⟩⟩
      · rw [List.getElem?_set_ne (Ne.symm hj)] at e2
        obtain ⟨u',r',q⟩:=hl j y v' e1 e2 e3
        refine ⟨u',r',?_⟩
        rcases q with q | ⟨k,c',e,z'⟩
        · exact .inl q
        · refine .inr ⟨k,c',e,z'.sameBut hs ?_⟩
          rintro rfl
          exact hj (nodup_ix hN e1 (I.ok.inj _ _ _ e hc ▸ hi))
    · by_cases hcc:c'=c
      · subst hcc; exact ⟨_,hc'⟩
      · obtain ⟨w2,z2⟩:=I.cell y c' e
        exact ⟨w2,z2.sameBut hs hcc⟩
    · obtain ⟨e,n,ne,nf,d⟩:=I.pin p hp
      refine ⟨(hs.2 p.1 ?_).trans e,n,ne,nf,d⟩
      intro q
      rw [q,hoc] at e
      have q':oc=p.2:=Option.some.inj e
      exact d w' (by rw [← q']; exact hocd)
theorem store_ok {M:Model} {A:Around} {E:Value→Shared→Prop} {i:Nat} {x:Str} {v:V} {u:Value} {Q:Unit→Shared→Prop} (I:Inv X pins σ H s) (hN:X.N.Nodup) (hi:X.N[i]?=some x) (hx:Loc X.env.scope x) (r:RelV v u)
    (h:∀ s',Inv X pins (σ.set i (some v)) H s'→Q () s') (hf:X.fn x=true∨X.env.scope.names.lookup x=some .local:=by first | exact .inl rfl | exact .inr rfl | assumption):wpAny M A (storeName X.env x u) Q E s :=
  store_ok2 I hN hi hx r (fun s' I' _=>h s' I') hf
theorem Inv.call' {s':Shared} {ch:List Addr} (I:Inv X pins σ H s) (ho:s'.os=s.os) (u:Un (frs X.stack) ch H H' s.heap s'.heap) (hok:HOk X.prog X.w H' s'.heap) (hg:AllBare s'.gens)
    (hch:∀ b∈ch,(b∈X.ex∨X.s₀.heap.objs.size≤b)∧b≠X.env.locals∧(∀ x c,X.env.cells.lookup x=some c→c≠b)∧∀ p∈X.pn++pins,p.1≠b):Inv X pins σ H' s':=by
  obtain ⟨h',g',d',t',o'⟩:=s'
  have e:o'=s.os:=ho
  subst e
  exact I.call (g':=g') (t':=t') (d':=d') u hok hg hch
end
noncomputable abbrev XK:=Value→Option Addr→Hp→Prop
noncomputable abbrev St:=List (Option V)
noncomputable abbrev VK:=V→Hp→Prop
noncomputable abbrev TE:=St→Hp→VK→Prop
noncomputable abbrev TT:=St→Hp→(Bool→Hp→Prop)→Prop
noncomputable abbrev TA:=St→Hp→(List V→Hp→Prop)→Prop
structure Ends where
  nx:St→Hp→Prop
  rt:VK
  bk:St→Hp→Prop:=fun _ _=>False
  ct:St→Hp→Prop:=fun _ _=>False
noncomputable abbrev TS:=Ends→St→Hp→Prop
noncomputable def EP (X:Cx) (pins:List (Addr×Obj)) (σ:St) (Q:VK) (u:Value) (s':Shared):Prop:=∃ v H',Inv X pins σ H' s'∧RelV v u∧Q v H'
noncomputable def TP (X:Cx) (pins:List (Addr×Obj)) (σ:St) (Q:Bool→Hp→Prop) (b:Bool) (s':Shared):Prop:=∃ H',Inv X pins σ H' s'∧Q b H'
noncomputable def AP (X:Cx) (pins:List (Addr×Obj)) (σ:St) (Q:List V→Hp→Prop) (us:List Value) (s':Shared):Prop:=∃ vs H',Inv X pins σ H' s'∧Vals vs us∧Q vs H'
noncomputable def SP (X:Cx) (pins:List (Addr×Obj)) (D:Ends) (f:Flow) (s':Shared):Prop :=
  match f with
  | .next=>∃ σ' H',Inv X pins σ' H' s'∧D.nx σ' H'
  | .brk=>∃ σ' H',Inv X pins σ' H' s'∧D.bk σ' H'
  | .cont=>∃ σ' H',Inv X pins σ' H' s'∧D.ct σ' H'
  | .ret u=>∃ v σ' H',Inv X pins σ' H' s'∧RelV v u∧D.rt v H'
noncomputable def PE (X:Cx) (e:Expr) (t:TE):Prop :=
  ∀ (pins:List (Addr×Obj)) (s:Shared) (σ:St) (H:Hp) (Q:VK),Inv X pins σ H s→t σ H Q→wpAny (model X.prog X.w) X.A (eval e X.env) (EP X pins σ Q) X.xe s
noncomputable def PT (X:Cx) (e:Expr) (t:TT):Prop :=
  ∀ (pins:List (Addr×Obj)) (s:Shared) (σ:St) (H:Hp) (Q:Bool→Hp→Prop),Inv X pins σ H s→t σ H Q→wpAny (model X.prog X.w) X.A (isTrue e X.env (eval e X.env)) (TP X pins σ Q) X.xe s
noncomputable def PW (X:Cx) (e:Expr) (t:TT):Prop :=
  ∀ (whole:Sem Value) (pins:List (Addr×Obj)) (s:Shared) (σ:St) (H:Hp) (Q:Bool→Hp→Prop),Inv X pins σ H s→t σ H Q→wpAny (model X.prog X.w) X.A (isTrue e X.env whole) (TP X pins σ Q) X.xe s
theorem PW.pt {X:Cx} {e:Expr} {t:TT} (h:PW X e t):PT X e t:=h _
noncomputable def PA (X:Cx) (es:List Expr) (t:TA):Prop :=
  ∀ (pos:Pos) (pins:List (Addr×Obj)) (s:Shared) (σ:St) (H:Hp) (Q:List V→Hp→Prop),Inv X pins σ H s→t σ H Q→wpAny (model X.prog X.w) X.A (spliced (backTo pos (starEach es X.env))) (AP X pins σ Q) X.xe s
noncomputable def PS (X:Cx) (st:Stmt) (t:TS):Prop :=
  ∀ (pins:List (Addr×Obj)) (s:Shared) (σ:St) (H:Hp) (D:Ends),Inv X pins σ H s→t D σ H→wpAny (model X.prog X.w) X.A (exec st X.env) (SP X pins D) X.xe s
noncomputable def PSs (X:Cx) (st:List Stmt) (t:TS):Prop :=
  ∀ (pins:List (Addr×Obj)) (s:Shared) (σ:St) (H:Hp) (D:Ends),Inv X pins σ H s→t D σ H→wpAny (model X.prog X.w) X.A (execs st X.env) (SP X pins D) X.xe s
theorem thn {α:Type} {t:Sem α} {Q Q':α→Shared→Prop} {M:Model} {A:Around} {E:Value→Shared→Prop} {s:Shared} (h:wpAny M A t Q E s) (hQ:∀ a s,Q a s→Q' a s):wpAny M A t Q' E s:=wpAny_mono h hQ fun _ _ x=>x
section
variable {X:Cx}
theorem bin {a b:Expr} {ta tb:TE} (ha:PE X a ta) (hb:PE X b tb) {pins:List (Addr×Obj)} {s:Shared} {σ:St} {H:Hp} {R:V→V→Hp→Prop} (I:Inv X pins σ H s) (h:ta σ H fun x H1=>tb σ H1 fun y H2=>R x y H2)
    {α:Type} {Q:α→Shared→Prop} {f:Value→Value→Sem α}
    (hf:∀ v u s2 x y H2,Inv X pins σ H2 s2→RelV x v→RelV y u→R x y H2→wpAny (model X.prog X.w) X.A (f v u) Q X.xe s2) :
    wpAny (model X.prog X.w) X.A (eval a X.env) (fun v s₁=>wpAny (model X.prog X.w) X.A (eval b X.env) (fun u s₂=>wpAny (model X.prog X.w) X.A (f v u) Q X.xe s₂) X.xe s₁) X.xe s:=by
  refine thn (ha pins s σ H _ I h) fun v s1 ⟨x,H1,I1,r1,q1⟩=>?_
  refine thn (hb pins s1 σ H1 _ I1 q1) fun u s2 ⟨y,H2,I2,r2,q2⟩=>?_
  exact hf v u s2 x y H2 I2 r1 r2 q2
noncomputable def tVar (i:Nat):TE:=fun σ H Q=>∃ v,σ[i]?=some (some v)∧Q v H
noncomputable def tC (v:V):TE:=fun _ H Q=>Q v H
theorem pe_var {i:Nat} {x:Str} {pos:Pos} (hN:X.N[i]?=some x) (hv:Vis X.env.scope x) (hd:(x == ("__debug__":Str))=false:=by decide) (hcd:(x == ("__classdict__":Str))=false:=by decide):PE X (.Name x pos) (tVar i):=by
  intro pins s σ H Q I h
  obtain ⟨v,e,h⟩:=h
  obtain ⟨m,hn,hl⟩:=I.loc
  obtain ⟨u,r,l⟩:=hl i x v hN e hv
  have fin:EP X pins σ Q u s:=⟨v,H,I,r,h⟩
  rcases l with ⟨hk,hm⟩ | ⟨hk,c,hc,hcell⟩
  · exact wpAny_Name (wpAny_loadName_local I.ok.kind hk hn hm fin) hd
  · rcases hk with hk | hk
    · exact wpAny_Name (wpAny_loadName_cell I.ok.kind hk hc hcell fin) hd
    · exact wpAny_Name (wpAny_loadName_free I.ok.kind hk hc hcell fin hcd) hd
theorem pe_int {i j pos}:PE X (.Constant (.int i) j pos) (tC (.int i)):=fun _ _ _ H _ I h=>wpAny_Constant_int ⟨.int i,H,I.tok _,⟨_,rfl⟩,h⟩
theorem pe_bl {b j pos}:PE X (.Constant (.bool b) j pos) (tC (.bl b)):=fun _ _ _ H _ I h=>Constant_bool ⟨.bl b,H,I,rfl,h⟩
theorem pe_non {j pos}:PE X (.Constant .none j pos) (tC .non):=fun _ _ _ H _ I h=>Constant_none ⟨.non,H,I,rfl,h⟩
theorem pe_str {x j pos}:PE X (.Constant (.str x) j pos) (tC (.str x)):=fun _ _ _ H _ I h=>Calls.Constant_str ⟨.str x,H,I.tok _,⟨_,rfl⟩,h⟩
noncomputable def Gl (X:Cx) (x:Str):Prop:=X.env.kindOf x=some .globalImplicit
theorem ld_glob {E:Value→Shared→Prop} {pins:List (Addr×Obj)} {s:Shared} {σ:St} {H:Hp} {x:Str} {u:Value} {pos:Pos} {Q:Value→Shared→Prop} (I:Inv X pins σ H s) (hg:Gl X x) (hm:X.mg x=some u) (h:Q u s)
    (hd:(x == ("__debug__":Str))=false:=by decide):wpAny (model X.prog X.w) X.A (eval (.Name x pos) X.env) Q E s :=
  Calls.Name_function_global I.ok.kind hg (Calls.loadGlobal_global (by rw [I.ok.glob]; exact I.mod.glob.keeps I.bk) hm h) hd
theorem ld_blt {E:Value→Shared→Prop} {pins:List (Addr×Obj)} {s:Shared} {σ:St} {H:Hp} {x:Str} {u:Value} {pos:Pos} {Q:Value→Shared→Prop} (I:Inv X pins σ H s) (hg:Gl X x) (hm:X.mg x=none) (hv:bootBuiltins x=some u) (h:Q u s)
    (hn:x≠"__name__":=by decide) (hd:(x == ("__debug__":Str))=false:=by decide):wpAny (model X.prog X.w) X.A (eval (.Name x pos) X.env) Q E s:=by
  obtain ⟨mb,h1,h2⟩:=I.mod.blt
  exact Calls.Name_function_global I.ok.kind hg (Calls.loadGlobal_builtin (by rw [I.ok.glob]; exact I.mod.glob.keeps I.bk) hm (by rw [I.ok.blt]; exact h1.keeps I.bk) ((h2 x hn).trans hv) h) hd
theorem pe_glob {x:Str} {v:V} {u:Value} {pos:Pos} (hg:Gl X x) (hm:X.mg x=some u) (r:RelV v u) (hd:(x == ("__debug__":Str))=false:=by decide):PE X (.Name x pos) (tC v) :=
  fun _ _ _ H _ I h=>ld_glob I hg hm ⟨v,H,I,r,h⟩ hd
theorem pe_bltn {x:Str} {v:V} {u:Value} {pos:Pos} (hg:Gl X x) (hm:X.mg x=none) (hv:bootBuiltins x=some u) (r:RelV v u) (hn:x≠"__name__":=by decide) (hd:(x == ("__debug__":Str))=false:=by decide):PE X (.Name x pos) (tC v) :=
  fun _ _ _ H _ I h=>ld_blt I hg hm hv ⟨v,H,I,r,h⟩ hn hd
variable {a b:Expr} {ta tb:TE} {pos:Pos}
noncomputable def PC (X:Cx) (op:CmpOp) (a b:Expr) (t:TE):Prop :=
  ∀ (pins:List (Addr×Obj)) (s:Shared) (σ:St) (H:Hp) (Q:VK),Inv X pins σ H s→t σ H Q →
    wpAny (model X.prog X.w) X.A (eval a X.env) (fun v s₁=>wpAny (model X.prog X.w) X.A (eval b X.env) (fun u s₂=>wpAny (model X.prog X.w) X.A (compareOp op v u) (EP X pins σ Q) X.xe s₂) X.xe s₁) X.xe s
theorem nobehind (b:Expr) {op:CmpOp} (h:op≠.In) (h2:op≠.NotIn):behindInMarks op b=false:=by
  have e1:(op == CmpOp.In)=false:=by cases op <;> first | rfl | exact absurd rfl h
  have e2:(op == CmpOp.NotIn)=false:=by cases op <;> first | rfl | exact absurd rfl h2
  cases b <;> simp [behindInMarks,e1,e2]
noncomputable def tIsN (ta:TE):TE:=fun σ H Q=>ta σ H fun x H1=>Q (.bl (decide (x=.non))) H1
noncomputable def tNotN (ta:TE):TE:=fun σ H Q=>ta σ H fun x H1=>Q (.bl (!decide (x=.non))) H1
theorem RelV.none_iff {x:V} {v:Value} (r:RelV x v):(v == Value.none)=decide (x=.non):=by
  cases x with
  | non=>cases r; rfl
  | bl _=>cases r; rfl
  | int _=>obtain ⟨t,rfl⟩:=r; rfl
  | str _=>obtain ⟨t,rfl⟩:=r; rfl
  | byt _=>obtain ⟨t,rfl⟩:=r; rfl
  | flt _=>obtain ⟨t,rfl⟩:=r; rfl
  | ref _=>cases r; rfl
  | ty _=>cases r; rfl
theorem pc_isN {j pos'} (ha:PE X a ta):PC X .Is a (.Constant .none j pos') (tIsN ta):=by
  intro pins s σ H Q I h
  refine thn (ha pins s σ H _ I h) fun v s1 ⟨x,H1,I1,r1,q1⟩=>?_
  exact Constant_none (is_none_gen ⟨.bl _,H1,I1,by rw [r1.none_iff]; rfl,q1⟩)
theorem pc_notN {j pos'} (ha:PE X a ta):PC X .IsNot a (.Constant .none j pos') (tNotN ta):=by
  intro pins s σ H Q I h
  refine thn (ha pins s σ H _ I h) fun v s1 ⟨x,H1,I1,r1,q1⟩=>?_
  exact Constant_none (isnot_none_gen ⟨.bl _,H1,I1,by rw [r1.none_iff]; rfl,q1⟩)
noncomputable def tB (t:TE):TT:=fun σ H Q=>t σ H fun x H1=>∃ c,x=.bl c∧Q c H1
theorem pe_cmp {op:CmpOp} {t:TE} (h:PC X op a b t) (h1:behindInMarks op b=false:=by first | exact nobehind _ (by decide) (by decide) | rfl):PE X (.Compare a [op] [b] pos) t:=fun pins s σ H Q I hw=>wpAny_Compare1 (h pins s σ H Q I hw) h1
theorem pt_cmp {op:CmpOp} {t:TE} (h:PC X op a b t) (h1:behindInMarks op b=false:=by first | exact nobehind _ (by decide) (by decide) | rfl):PT X (.Compare a [op] [b] pos) (tB t):=by
  intro pins s σ H Q I hw
  refine wpAny_isTrue_Compare1 (thn (h pins s σ H _ I hw) fun v s1 h1=>thn h1 fun u s2 h2=>thn h2 fun c s3 ⟨x,H1,I1,r1,q1⟩=>?_) h1
  obtain ⟨d,rfl,q⟩:=q1
  cases r1
  exact wpAny_truthy_bool ⟨H1,I1,q⟩
theorem pt_val {e:Expr} {t:TE} (h:PE X e t) (he:∀ whole,isTrue e X.env whole=(do let v←whole; standAt e.pos; holding [v] (truthy v)):=by intro _; rfl):PT X e (tB t):=by
  intro pins s σ H Q I hw
  refine isTrue_plain (thn (h pins s σ H _ I hw) fun v s1 ⟨x,H1,I1,r1,q1⟩=>?_) (he _)
  obtain ⟨d,rfl,q⟩:=q1
  cases r1
  exact wpAny_truthy_bool ⟨H1,I1,q⟩
variable {tA tB':TT} {rest:List Expr}
noncomputable def tAnd (t u:TT):TT:=fun σ H Q=>t σ H fun c H1=>if c=true then u σ H1 Q else Q false H1
noncomputable def tOr (t u:TT):TT:=fun σ H Q=>t σ H fun c H1=>if c=true then Q true H1 else u σ H1 Q
noncomputable def tNot (t:TT):TT:=fun σ H Q=>t σ H fun c H1=>Q (!c) H1
theorem pw_and1 (ha:PT X a tA):PW X (.BoolOp .And [a] pos) tA:=by
  intro wh pins s σ H Q I h
  refine isTrue_and (thn (ha pins s σ H Q I h) fun c s1 e=>?_)
  cases c with
  | true=>exact isTrue_and_nil e
  | false=>exact e
theorem pw_or1 (ha:PT X a tA):PW X (.BoolOp .Or [a] pos) tA:=by
  intro wh pins s σ H Q I h
  refine isTrue_or (thn (ha pins s σ H Q I h) fun c s1 e=>?_)
  cases c with
  | false=>exact isTrue_or_nil e
  | true=>exact e
theorem pw_and (ha:PT X a tA) (hb:PW X (.BoolOp .And (b::rest) pos) tB'):PW X (.BoolOp .And (a::b::rest) pos) (tAnd tA tB'):=by
  intro wh pins s σ H Q I h
  refine isTrue_and (thn (ha pins s σ H _ I h) fun c s1 ⟨H1,I1,q1⟩=>?_)
  cases c with
  | true=>exact hb wh pins s1 σ H1 Q I1 q1
  | false=>exact ⟨H1,I1,q1⟩
theorem pw_or (ha:PT X a tA) (hb:PW X (.BoolOp .Or (b::rest) pos) tB'):PW X (.BoolOp .Or (a::b::rest) pos) (tOr tA tB'):=by
  intro wh pins s σ H Q I h
  refine isTrue_or (thn (ha pins s σ H _ I h) fun c s1 ⟨H1,I1,q1⟩=>?_)
  cases c with
  | true=>exact ⟨H1,I1,q1⟩
  | false=>exact hb wh pins s1 σ H1 Q I1 q1
theorem pt_not (ha:PT X a tA):PT X (.UnaryOp .Not a pos) (tNot tA):=by
  intro pins s σ H Q I h
  exact isTrue_not (ha pins s σ H (fun c H1=>Q (!c) H1) I h)
noncomputable def tAndV (ta tb:TE):TE:=fun σ H Q=>ta σ H fun x H1=>∃ c,x=.bl c∧if c=true then tb σ H1 Q else Q (.bl false) H1
noncomputable def tOrV (ta tb:TE):TE:=fun σ H Q=>ta σ H fun x H1=>∃ c,x=.bl c∧if c=true then Q (.bl true) H1 else tb σ H1 Q
noncomputable def tNotV (ta:TE):TE:=fun σ H Q=>ta σ H fun x H1=>∃ c,x=.bl c∧Q (.bl (!c)) H1
theorem pe_one {op} {t:TE} (h:PE X a t):PE X (.BoolOp op [a] pos) t:=fun pins s σ H Q I hw=>BoolOp_one (h pins s σ H Q I hw)
theorem pe_and (ha:PE X a ta) (hb:PE X (.BoolOp .And (b::rest) pos) tb):PE X (.BoolOp .And (a::b::rest) pos) (tAndV ta tb):=by
  intro pins s σ H Q I h
  refine BoolOp_and (thn (ha pins s σ H _ I h) fun v s1 ⟨x,H1,I1,r1,q1⟩=>?_)
  obtain (⟨c,rfl,q1⟩):=q1
  cases r1
  refine wpAny_truthy_bool ?_
  cases c with
  | true=>exact hb pins s1 σ H1 Q I1 q1
  | false=>exact ⟨.bl false,H1,I1,rfl,q1⟩
theorem pe_or (ha:PE X a ta) (hb:PE X (.BoolOp .Or (b::rest) pos) tb):PE X (.BoolOp .Or (a::b::rest) pos) (tOrV ta tb):=by
  intro pins s σ H Q I h
  refine BoolOp_or (thn (ha pins s σ H _ I h) fun v s1 ⟨x,H1,I1,r1,q1⟩=>?_)
  obtain (⟨c,rfl,q1⟩):=q1
  cases r1
  refine wpAny_truthy_bool ?_
  cases c with
  | false=>exact hb pins s1 σ H1 Q I1 q1
  | true=>exact ⟨.bl true,H1,I1,rfl,q1⟩
theorem pe_not (ha:PE X a ta):PE X (.UnaryOp .Not a pos) (tNotV ta):=by
  intro pins s σ H Q I h
  refine UnaryOp_ (thn (ha pins s σ H _ I h) fun v s1 ⟨x,H1,I1,r1,q1⟩=>?_)
  obtain (⟨c,rfl,q1⟩):=q1
  cases r1
  exact not_of (wpAny_truthy_bool ⟨.bl (!c),H1,I1,rfl,q1⟩)
noncomputable def tIf (t:TT) (ta tb:TE):TE:=fun σ H Q=>t σ H fun c H1=>if c=true then ta σ H1 Q else tb σ H1 Q
theorem pe_ifExp {c:Expr} (hc:PT X c tA) (ha:PE X a ta) (hb:PE X b tb):PE X (.IfExp c a b pos) (tIf tA ta tb):=by
  intro pins s σ H Q I h
  refine wpAny_IfExp (thn (hc pins s σ H _ I h) fun d s1 ⟨H1,I1,q1⟩=>?_)
  cases d with
  | true=>exact ha pins s1 σ H1 Q I1 q1
  | false=>exact hb pins s1 σ H1 Q I1 q1
end
noncomputable def SqL (K:PySem.W.Frag) (H:Hp) (a:Addr) (xs:List V):Prop :=
  Rd H a (.lst xs) ∨
    ∃ (o:Obj) (its:Array Value) (n:Nat),K.lookup a=some o∧o.cls=.type "list"∧o.dict=none∧o.data=.seq its n∧its.size≤sizeLine∧Vals xs its.toList
noncomputable def SqT (K:PySem.W.Frag) (H:Hp) (a:Addr) (xs:List V):Prop :=
  Rd H a (.tup xs) ∨
    ∃ (o:Obj) (its:Array Value) (n:Nat),K.lookup a=some o∧o.cls=.type "tuple"∧o.data=.seq its n∧its.size≤sizeLine∧Vals xs its.toList
noncomputable def absV:Value→Option V
  | .none=>some .non
  | .bool b=>some (.bl b)
  | .int i _=>some (.int i)
  | .str x _=>some (.str x)
  | .bytes b _=>some (.byt b)
  | .float b _=>some (.flt b)
  | .ref a=>some (.ref a)
  | .type n=>some (.ty n)
  | _=>none
theorem RelV.abs {x:V} {u:Value} (r:RelV x u):absV u=some x:=by
  cases x with
  | non=>cases r; rfl
  | bl _=>cases r; rfl
  | int _=>obtain ⟨t,rfl⟩:=r; rfl
  | str _=>obtain ⟨t,rfl⟩:=r; rfl
  | byt _=>obtain ⟨t,rfl⟩:=r; rfl
  | flt _=>obtain ⟨t,rfl⟩:=r; rfl
  | ref _=>cases r; rfl
  | ty _=>cases r; rfl
theorem RelV.inj {x y:V} {u:Value} (r:RelV x u) (q:RelV y u):x=y:=Option.some.inj (r.abs.symm.trans q.abs)
theorem Vals.inj:∀ {xs ys:List V} {us:List Value},Vals xs us→Vals ys us→xs=ys
  | _,_,_,.nil,.nil=>rfl
  | _,_,_,.cons r t,.cons r' t'=>by rw [r.inj r',Vals.inj t t']
section
variable {X:Cx} {pins:List (Addr×Obj)} {σ:St} {H:Hp} {s:Shared} {a:Addr} {xs ys:List V}
theorem SqL.of {K:PySem.W.Frag} (h:H a=some (.lst xs)):SqL K H a xs:=.inl (.inl h)
theorem SqT.of {K:PySem.W.Frag} (h:H a=some (.tup xs)):SqT K H a xs:=.inl (.inl h)
theorem Inv.list (I:Inv X pins σ H s) (h:SqL X.K H a xs):∃ its:List Value,Vals xs its∧PlainL s.heap a its.toArray∧xs.length≤sizeLine:=by
  rcases h with h | ⟨o,its,n,hk,hc,hd,hs,hz,r⟩
  · obtain ⟨z,its,n,r,e⟩:=h.ok I.hok
    exact ⟨its,r,⟨_,n,e,rfl,rfl,rfl⟩,z⟩
  · refine ⟨its.toList,r,⟨o,n,I.kIn a o hk,hc,hd,by simpa using hs⟩,?_⟩
    have e:=r.length
    simp only [Array.length_toList] at e
    lia
theorem Inv.tuple (I:Inv X pins σ H s) (h:SqT X.K H a xs):∃ its:List Value,Vals xs its∧IsTup s.heap a its.toArray∧xs.length≤sizeLine:=by
  rcases h with h | ⟨o,its,n,hk,hc,hs,hz,r⟩
  · obtain ⟨z,its,r,p⟩:=h.ok I.hok
    exact ⟨its,r,p,z⟩
  · refine ⟨its.toList,r,⟨o,I.kIn a o hk,hc,n,by simpa using hs⟩,?_⟩
    have e:=r.length
    simp only [Array.length_toList] at e
    lia
theorem Inv.list_inj (I:Inv X pins σ H s) (h:SqL X.K H a xs) (h':SqL X.K H a ys):xs=ys:=by
  obtain ⟨its,r,⟨o,n,e,_,_,d⟩,_⟩:=I.list h
  obtain ⟨its',r',⟨o',n',e',_,_,d'⟩,_⟩:=I.list h'
  rw [e] at e'; cases e'
  rw [d] at d'
  injection d' with d1 _
  have:its=its':=by simpa using congrArg Array.toList d1
  subst this
  exact r.inj r'
theorem Inv.tuple_inj (I:Inv X pins σ H s) (h:SqT X.K H a xs) (h':SqT X.K H a ys):xs=ys:=by
  obtain ⟨its,r,⟨o,e,_,n,d⟩,_⟩:=I.tuple h
  obtain ⟨its',r',⟨o',e',_,n',d'⟩,_⟩:=I.tuple h'
  rw [e] at e'; cases e'
  rw [d] at d'
  injection d' with d1 _
  have:its=its':=by simpa using congrArg Array.toList d1
  subst this
  exact r.inj r'
end
section
variable {X:Cx} {st:Stmt} {rest:List Stmt} {t u:TS} {e:Expr} {te:TE} {pos:Pos}
noncomputable def tNext:TS:=fun D σ H=>D.nx σ H
noncomputable def tSeq (t u:TS):TS:=fun D σ H=>t {D with nx:=u D} σ H
theorem pss_nil:PSs X [] tNext:=fun _ _ σ H _ I h=>wpAny_execs_nil ⟨σ,H,I,h⟩
theorem pss_cons (h1:PS X st t) (h2:PSs X rest u):PSs X (st::rest) (tSeq t u):=by
  intro pins s σ H D I h
  refine wpAny_execs_cons (thn (h1 pins s σ H {D with nx:=u D} I h) fun f s1 q=>?_)
  cases f with
  | next =>
    obtain ⟨σ',H',I',q⟩:=q
    exact h2 pins s1 σ' H' D I' q
  | ret v=>exact q
  | brk=>exact q
  | cont=>exact q
theorem ps_pass:PS X (.Pass pos) tNext:=fun _ _ σ H _ I h=>wpAny_Pass ⟨σ,H,I,h⟩
theorem Inv.quiet {pins:List (Addr×Obj)} {σ:St} {H:Hp} {s:Shared} (I:Inv X pins σ H s):interactive X.env=false:=by simp [interactive,I.ok.kind]
noncomputable def tDrop (te:TE):TS:=fun D σ H=>te σ H fun _ H1=>D.nx σ H1
theorem ps_expr (he:PE X e te) (hs:swapsWith e none pos.line X.env=pure false:=by rfl):PS X (.Expr e pos) (tDrop te):=by
  intro pins s σ H D I h
  exact wpAny_Expr_any (thn (he pins s σ H _ I h) fun v s1 ⟨x,H1,I1,r1,q1⟩=>⟨σ,H1,I1,q1⟩) I.quiet hs
noncomputable def tRet (te:TE):TS:=fun D σ H=>te σ H D.rt
theorem ps_ret (he:PE X e te):PS X (.Return (some e) pos) (tRet te):=by
  intro pins s σ H D I h
  exact wpAny_Return_some (thn (he pins s σ H _ I h) fun v s1 ⟨x,H1,I1,r1,q1⟩=>⟨x,σ,H1,I1,r1,q1⟩)
noncomputable def tIfS (c:TT) (t u:TS):TS:=fun D σ H=>c σ H fun b H1=>if b=true then t D σ H1 else u D σ H1
theorem ps_if {c:Expr} {a b:List Stmt} {tc:TT} (hc:PT X c tc) (ha:PSs X a t) (hb:PSs X b u):PS X (.If c a b pos) (tIfS tc t u):=by
  intro pins s σ H D I h
  refine wpAny_If (thn (hc pins s σ H _ I h) fun d s1 ⟨H1,I1,q1⟩=>?_)
  cases d with
  | true=>exact ha pins s1 σ H1 D I1 q1
  | false=>exact hb pins s1 σ H1 D I1 q1
end
noncomputable abbrev TG:=V→St→Hp→(St→Hp→Prop)→Prop
noncomputable abbrev TGs:=List V→St→Hp→(St→Hp→Prop)→Prop
noncomputable def PG (X:Cx) (target:Expr) (t:TG):Prop :=
  ∀ (pins:List (Addr×Obj)) (s:Shared) (σ:St) (H:Hp) (v:V) (u:Value) (Q:St→Hp→Prop),Inv X pins σ H s→RelV v u→t v σ H Q →
    wpAny (model X.prog X.w) X.A (assign target X.env u) (fun _ s'=>∃ σ' H',Inv X pins σ' H' s'∧Q σ' H') X.xe s
noncomputable def PGs (X:Cx) (ts:List Expr) (t:TGs):Prop :=
  ∀ (pins:List (Addr×Obj)) (s:Shared) (σ:St) (H:Hp) (vs:List V) (us:List Value) (Q:St→Hp→Prop),Inv X pins σ H s→Vals vs us→t vs σ H Q →
    wpAny (model X.prog X.w) X.A (assignInOrder ((assignEach ts X.env).map (·.2)) us) (fun _ s'=>∃ σ' H',Inv X pins σ' H' s'∧Q σ' H') X.xe s
noncomputable abbrev TSet:=V→V→V→Hp→(Hp→Prop)→Prop
noncomputable def PSet (X:Cx) (t:TSet):Prop :=
  ∀ (pins:List (Addr×Obj)) (s:Shared) (σ:St) (H:Hp) (o i v:V) (ov iv u:Value) (Q:Hp→Prop),Inv X pins σ H s→RelV o ov→RelV i iv→RelV v u→t o i v H Q →
    wpAny (model X.prog X.w) X.A (setItem ov iv u) (fun _ s'=>∃ H',Inv X pins σ H' s'∧Q H') X.xe s
section
variable {X:Cx} {pos:Pos}
noncomputable def gName (i:Nat):TG:=fun v σ H Q=>Q (σ.set i (some v)) H
theorem pg_name {i:Nat} {x:Str} (hN:X.N.Nodup) (hi:X.N[i]?=some x) (hx:Loc X.env.scope x) (hf:X.fn x=true∨X.env.scope.names.lookup x=some .local:=by first | exact .inl rfl | exact .inr rfl | assumption):PG X (.Name x pos) (gName i):=by
  intro pins s σ H v u Q I r h
  exact wpAny_assign_Name (store_ok I hN hi hx r (fun s' I'=>⟨_,H,I',h⟩) hf)
noncomputable def gNil:TGs:=fun vs σ H Q=>vs=[]∧Q σ H
noncomputable def gCons (t:TG) (u:TGs):TGs:=fun vs σ H Q=>∃ v r,vs=v::r∧t v σ H fun σ' H'=>u r σ' H' Q
theorem pgs_nil:PGs X [] gNil:=by
  intro pins s σ H vs us Q I r h
  obtain (⟨e,h⟩):=h
  subst e
  cases r
  exact assignInOrder_nil ⟨σ,H,I,h⟩
theorem pgs_cons {e:Expr} {es:List Expr} {t:TG} {u:TGs} (h1:PG X e t) (h2:PGs X es u)
    (hs:(assignEach (e::es) X.env).map (·.2)=assign e X.env::(assignEach es X.env).map (·.2):=by rfl):PGs X (e::es) (gCons t u):=by
  intro pins s σ H vs us Q I r h
  obtain (⟨v,vr,e1,h⟩):=h
  subst e1
  cases r with
  | cons r rr =>
    rw [hs]
    refine assignInOrder_cons (thn (h1 pins s σ H _ _ _ I r h) fun _ s1 ⟨σ1,H1,I1,q1⟩=>?_)
    exact h2 pins s1 σ1 H1 _ _ Q I1 rr q1
noncomputable def gTup (K:PySem.W.Frag) (n:Nat) (t:TGs):TG:=fun v σ H Q=>∃ a xs,v=.ref a∧SqT K H a xs∧xs.length=n∧t xs σ H Q
theorem pg_tup {es:List Expr} {k:Nat} {t:TGs} {n:Nat} (hc:X.calm=true) (h:PGs X es t)
    (hn:(assignEach es X.env).length=n:=by rfl) (hst:(assignEach es X.env).findIdx? (·.1)=none:=by rfl):PG X (.Tuple es k pos) (gTup X.K n t):=by
  intro pins s σ H v u Q I r hw
  obtain (⟨a,xs,e1,hq,hl,hw⟩):=hw
  subst e1
  cases r
  obtain (⟨its,rv,ht,hz⟩):=I.tuple hq
  refine assign_Tuple_tuple (I.ok.hd hc) ht (by simp [hn,← hl,rv.length]) hst fun h' hx=>?_
  have I1:Inv X pins σ H {s with heap:=h'}:=I.kept (t':=s.toks) fun b o e=>hx b o (Nat.ne_of_lt (Heap.lt_size e)) e
  exact h pins _ σ H xs _ Q I1 (by simpa using rv) hw
noncomputable def gSub (to ti:TE) (t:TSet):TG:=fun v σ H Q=>to σ H fun o H1=>ti σ H1 fun i H2=>t o i v H2 fun H3=>Q σ H3
theorem pg_sub {o i:Expr} {to ti:TE} {t:TSet} (ho:PE X o to) (hi:PE X i ti) (hs:PSet X t)
    (ha:∀ v,assign (.Subscript o i pos) X.env v=(do
      let ov←holding [v] (eval o X.env)
      let iv←holding [v,ov] (eval i X.env)
      standAt pos
      holding [v,ov,iv] (setItem ov iv v)
      release [v,ov,iv] []):=by intro _; rfl):PG X (.Subscript o i pos) (gSub to ti t):=by
  intro pins s σ H v u Q I r h
  rw [ha]
  refine wpAny_bind (wpAny_holding (thn (ho pins s σ H _ I h) fun ov s1 ⟨x,H1,I1,r1,q1⟩=>?_))
  refine wpAny_bind (wpAny_holding (thn (hi pins s1 σ H1 _ I1 q1) fun iv s2 ⟨y,H2,I2,r2,q2⟩=>?_))
  refine wpAny_bind (wpAny_standAt (wpAny_bind (wpAny_holding (thn (hs pins s2 σ H2 x y v ov iv u _ I2 r1 r2 r q2) fun _ s3 ⟨H3,I3,q3⟩=>?_))))
  exact wpAny_release ⟨σ,H3,I3,q3⟩
noncomputable def tAsg (te:TE) (g:TG):TS:=fun D σ H=>te σ H fun x H1=>g x σ H1 D.nx
theorem ps_asg {tg e:Expr} {te:TE} {g:TG} (he:PE X e te) (hg:PG X tg g) (hs:swapsWithSole [tg] e pos.line X.env=pure false:=by rfl) (hw:swappedStores [tg] e X.env=pure none:=by rfl)
    (h1:(assignEach [tg] X.env).map (·.2)=[assign tg X.env]:=by rfl):PS X (.Assign [tg] e pos) (tAsg te g):=by
  intro pins s σ H D I h
  refine wpAny_Assign_stores (thn (he pins s σ H _ I h) fun v s1 ⟨x,H1,I1,r1,q1⟩=>?_) hs hw
  rw [h1]
  exact thn (hg pins s1 σ H1 x v _ I1 r1 q1) fun _ s2 q=>q
end
section
variable {X:Cx} {pos:Pos}
noncomputable def tWhile (c:TT) (tb:TS):TS:=fun D σ H=>∃ W:Nat→St→Hp→Prop,(∃ m,W m σ H)∧∀ m σ H,W m σ H →
  c σ H fun b H1=>if b=true then ∃ N:St→Hp→Prop,(∀ σ' H',N σ' H'→∃ m',m' < m∧W m' σ' H')∧tb {D with nx:=N,ct:=N,bk:=D.nx} σ H1 else D.nx σ H1
theorem ps_while {c:Expr} {body:List Stmt} {tc:TT} {tb:TS} (hp:PassesOwn (model X.prog X.w) X.A X.env X.xe) (hc:PT X c tc) (hb:PSs X body tb):PS X (.While c body [] pos) (tWhile tc tb):=by
  intro pins s σ H D I h
  obtain ⟨W,⟨m0,w0⟩,turn⟩:=h
  refine wpAny_While (codeAny_whileLoop (fun n s'=>∃ σ' H',Inv X pins σ' H' s'∧W n σ' H') ?_ m0 ⟨σ,H,I,w0⟩)
  rintro n s1 ⟨σ1,H1,I1,w1⟩
  refine wpAny_passesOwn hp (thn (hc pins s1 σ1 H1 _ I1 (turn n σ1 H1 w1)) fun b s2 ⟨H2,I2,q2⟩=>?_)
  cases b with
  | true =>
    obtain ⟨N,hN,q2⟩:=q2
    rw [if_pos rfl]
    refine wpAny_passesOwn hp (thn (hb pins s2 σ1 H2 _ I2 q2) fun f s3 q3=>?_)
    cases f with
    | next =>
      obtain ⟨σ3,H3,I3,n3⟩:=q3
      obtain ⟨m',hm,w3⟩:=hN σ3 H3 n3
      exact ⟨m',hm,σ3,H3,I3,w3⟩
    | cont =>
      obtain ⟨σ3,H3,I3,n3⟩:=q3
      obtain ⟨m',hm,w3⟩:=hN σ3 H3 n3
      exact ⟨m',hm,σ3,H3,I3,w3⟩
    | brk=>exact q3
    | ret v=>exact q3
  | false =>
    rw [if_neg Bool.false_ne_true]
    exact wpAny_execs_nil ⟨σ1,H2,I2,q2⟩
end
structure It where
  go:Nat→Hp→Prop
  yld:Nat→Hp→V→Hp→Prop
  stop:Nat→Hp→Prop
noncomputable def FpOk (X:Cx) (pins:List (Addr×Obj)) (H:Hp) (b:Addr):Prop :=
  H b=none∧b≠X.env.locals∧b∉X.fs∧(b∈X.ex∨X.s₀.heap.objs.size≤b)∧(∀ x c,X.env.cells.lookup x=some c→c≠b)∧∀ p∈X.pn++pins,p.1≠b
theorem Inv.fpOk {X:Cx} {pins:List (Addr×Obj)} {σ:St} {H H':Hp} {s:Shared} {b:Addr} (I:Inv X pins σ H s) (hb:s.heap.objs.size≤b) (hn:H' b=none):FpOk X pins H' b:=by
  refine ⟨hn,Nat.ne_of_gt (Nat.lt_of_lt_of_le I.lt hb),I.nofs hb,.inr (Nat.le_trans I.sz hb),fun x c e z=>?_,fun p hp z=>?_⟩
  · obtain ⟨v,q⟩:=I.cell x c e
    exact absurd (Nat.lt_of_lt_of_le q.lt (by rw [z]; exact hb)) (Nat.lt_irrefl _)
  · exact absurd (Nat.lt_of_lt_of_le (Heap.lt_size (I.pin p hp).1) (by rw [z]; exact hb)) (Nat.lt_irrefl _)
structure Turn (P:Program) (w:World) (K:PySem.W.Frag) (tg:Expr) (J:It) (fp:List Addr) (it:Addr) (tn:Nat→Heap→Prop):Prop where
  mem:it∈fp
  obj:∀ i h,tn i h→∀ b∈fp,∃ o,h.get? b=some o∧∀ v,o.data≠.cell v
  keep:∀ i h h',tn i h→(∀ b∈fp,∀ o,h.get? b=some o→h'.get? b=some o)→tn i h'
  item:∀ (X:Cx),X.prog=P→X.w=w→X.K=K→X.calm=true→∀ (i:Nat) (pins:List (Addr×Obj)) (s:Shared) (σ:St) (H:Hp) (E:Value→Shared→Prop),Inv X pins σ H s→(∀ b∈fp,FpOk X pins H b)→tn i s.heap→J.go i H →
    wpAny (model P w) X.A (pyNext (.ref it)) (fun r s1=>∃ u,r=some u ∧
      wpAny (model P w) X.A (letOwnedTupleGo tg (.ref it) u) (fun _ s2=>∃ x H',Inv X pins σ H' s2∧RelV x u∧J.yld i H x H'∧tn (i + 1) s2.heap∧∀ b∈fp,H' b=none) E s1) E s
  done:∀ (X:Cx),X.prog=P→X.w=w→X.K=K→X.calm=true→∀ (i:Nat) (pins:List (Addr×Obj)) (s:Shared) (σ:St) (H:Hp) (E:Value→Shared→Prop),Inv X pins σ H s→(∀ b∈fp,FpOk X pins H b)→tn i s.heap→J.stop i H →
    wpAny (model P w) X.A (pyNext (.ref it)) (fun r s1=>r=none∧Inv X pins σ H s1) E s
  self:∀ (A:Around) (i:Nat) (s:Shared) (Q:Value→Shared→Prop) (E:Value→Shared→Prop),tn i s.heap→Q (.ref it) s→wpAny (model P w) A (pyIter (.ref it)) Q E s
noncomputable abbrev TI:=St→Hp→(It→Hp→Prop)→Prop
noncomputable def PIE (X:Cx) (pins:List (Addr×Obj)) (σ:St) (tg:Expr) (R:It→Hp→Prop) (itv:Value) (s2:Shared):Prop :=
  ∃ (it:Addr) (fp:List Addr) (tn:Nat→Heap→Prop) (J:It) (H':Hp),itv=.ref it∧Inv X pins σ H' s2∧Turn X.prog X.w X.K tg J fp it tn∧tn 0 s2.heap∧(∀ b∈fp,FpOk X pins H' b)∧R J H'
noncomputable def PI (X:Cx) (tg iter:Expr) (wi:TI):Prop :=
  ∀ (pins:List (Addr×Obj)) (s:Shared) (σ:St) (H:Hp) (R:It→Hp→Prop),Inv X pins σ H s→wi σ H R →
    wpAny (model X.prog X.w) X.A (eval iter X.env) (fun v s1=>wpAny (model X.prog X.w) X.A (pyIter v) (PIE X pins σ tg R) X.xe s1) X.xe s
theorem go_of {M:Model} {A:Around} {E:Value→Shared→Prop} {s:Shared} {tg:Expr} {it:Addr} {u:Value} {o:Obj} {n:String} {vs:Array Value} {Q:Unit→Shared→Prop} (ho:s.heap.get? it=some o) (hc:o.cls=.type n) (hd:o.data=.fields vs)
    (hn:["enumerate","zip","dict_itemiterator","dict_reverseitemiterator","odict_iterator","itertools.zip_longest","itertools.pairwise"].contains n=false) (hQ:Q () s):wpAny M A (letOwnedTupleGo tg (.ref it) u) Q E s:=by
  unfold letOwnedTupleGo
  cases tg <;> first
    | exact wpAny_pure hQ
    | (cases u <;> first
        | exact wpAny_pure hQ
        | (refine wpAny_bind (wpAny_load ho ?_)
           rw [hc,hd]
           show wpAny M A (if (["enumerate","zip","dict_itemiterator","dict_reverseitemiterator","odict_iterator","itertools.zip_longest","itertools.pairwise"].contains n&&vs[0]? == some (rawInt _))=true then _ else _) Q E s
           rw [if_neg (by intro h; rw [hn,Bool.false_and] at h; cases h)]
           exact wpAny_pure hQ))
noncomputable def Itl (K:PySem.W.Frag) (a:Addr):It :=
  ⟨fun i H=>∃ xs x,SqL K H a xs∧xs[i]?=some x,fun i H x H'=>H'=H∧∀ xs,SqL K H a xs→xs[i]?=some x,fun i H=>∃ xs,SqL K H a xs∧xs.length≤i⟩
noncomputable def Itt (K:PySem.W.Frag) (a:Addr):It :=
  ⟨fun i H=>∃ xs x,SqT K H a xs∧xs[i]?=some x,fun i H x H'=>H'=H∧∀ xs,SqT K H a xs→xs[i]?=some x,fun i H=>∃ xs,SqT K H a xs∧xs.length≤i⟩
noncomputable def Itr (lo:Int) (n:Nat):It:=⟨fun i _=>i < n,fun i H x H'=>H'=H∧x=.int (lo + i),fun i _=>n≤i⟩
theorem turn_list {P:Program} {w:World} {K:PySem.W.Frag} {tg:Expr} (a it:Addr):Turn P w K tg (Itl K a) [it] it (fun i h=>h.IsListIter it a i) where
  mem:=by simp
  obj:=fun i h st b hb=>by
    have e:b=it:=by simpa using hb
    subst e
    obtain ⟨o,e,c,d⟩:=st
    exact ⟨o,e,fun v z=>by rw [d] at z; cases z⟩
  keep:=fun i h h' st k=>st.at fun o e=>k it (by simp) o e
  item:=by
    intro X hP hw hK hc i pins s σ H E I hf st hg
    subst hP hw hK
    obtain ⟨xs,x,hq,hx⟩:=hg
    obtain ⟨its,rv,p,hz⟩:=I.list hq
    obtain ⟨u,hu,ru⟩:=rv.get hx
    obtain ⟨f0,f1,f2,f3,f4,f5⟩:=hf it (by simp)
    refine wpAny_pyNext_list_item st p.isList (x:=u) (by simpa using hu) fun h' st' sb=>?_
    have I1:Inv X pins σ H {s with heap:=h'}:=I.turned (t':=s.toks) (fun b o hb e=>(sb.2 b hb).trans e) f0 f1 f3 f4 f5
    obtain ⟨o,e,c,d⟩:=id st'
    exact ⟨u,rfl,go_of (s:={s with heap:=h'}) e c d (by decide) ⟨x,H,I1,ru,⟨rfl,fun ys hy=>by rw [I.list_inj hy hq]; exact hx⟩,st',fun b hb=>(hf b hb).1⟩⟩
  done:=by
    intro X hP hw hK hc i pins s σ H E I hf st hg
    subst hP hw hK
    obtain ⟨xs,hq,hx⟩:=hg
    obtain ⟨its,rv,p,hz⟩:=I.list hq
    obtain ⟨f0,f1,f2,f3,f4,f5⟩:=hf it (by simp)
    have hl:=rv.length
    exact wpAny_pyNext_list_end (I.ok.hd hc) st p.isList (by simp; lia) fun h' eb=>⟨rfl,I.turned (t':=s.toks) (fun b o hb e=>eb b o hb e) f0 f1 f3 f4 f5⟩
  self:=fun _ _ _ _ _ st h=>wpAny_pyIter_listiter st h
theorem turn_tuple {P:Program} {w:World} {K:PySem.W.Frag} {tg:Expr} (a it:Addr):Turn P w K tg (Itt K a) [it] it (fun i h=>h.IsTupleIter it a i) where
  mem:=by simp
  obj:=fun i h st b hb=>by
    have e:b=it:=by simpa using hb
    subst e
    obtain ⟨o,e,c,d⟩:=st
    exact ⟨o,e,fun v z=>by rw [d] at z; cases z⟩
  keep:=fun i h h' st k=>st.at fun o e=>k it (by simp) o e
  item:=by
    intro X hP hw hK hc i pins s σ H E I hf st hg
    subst hP hw hK
    obtain ⟨xs,x,hq,hx⟩:=hg
    obtain ⟨its,rv,p,hz⟩:=I.tuple hq
    obtain ⟨u,hu,ru⟩:=rv.get hx
    obtain ⟨f0,f1,f2,f3,f4,f5⟩:=hf it (by simp)
    refine wpAny_pyNext_tuple_item st (show s.heap.IsTuple a its.toArray from p) (x:=u) (by simpa using hu) fun h' st' sb=>?_
    have I1:Inv X pins σ H {s with heap:=h'}:=I.turned (t':=s.toks) (fun b o hb e=>(sb.2 b hb).trans e) f0 f1 f3 f4 f5
    obtain ⟨o,e,c,d⟩:=id st'
    exact ⟨u,rfl,go_of (s:={s with heap:=h'}) e c d (by decide) ⟨x,H,I1,ru,⟨rfl,fun ys hy=>by rw [I.tuple_inj hy hq]; exact hx⟩,st',fun b hb=>(hf b hb).1⟩⟩
  done:=by
    intro X hP hw hK hc i pins s σ H E I hf st hg
    subst hP hw hK
    obtain ⟨xs,hq,hx⟩:=hg
    obtain ⟨its,rv,p,hz⟩:=I.tuple hq
    obtain ⟨f0,f1,f2,f3,f4,f5⟩:=hf it (by simp)
    have hl:=rv.length
    exact wpAny_pyNext_tuple_end (I.ok.hd hc) st (show s.heap.IsTuple a its.toArray from p) (by simp; lia) fun h' eb=>⟨rfl,I.turned (t':=s.toks) (fun b o hb e=>eb b o hb e) f0 f1 f3 f4 f5⟩
  self:=fun _ _ _ _ _ st h=>wpAny_pyIter_tupleiter st h
theorem turn_range {P:Program} {w:World} {K:PySem.W.Frag} {tg:Expr} (it:Addr) (lo:Int) (n:Nat):Turn P w K tg (Itr lo n) [it] it (fun i h=>IsRangeIter h it (lo + (i:Nat) * 1) ((n:Int) - (i:Nat)) 1) where
  mem:=by simp
  obj:=fun i h st b hb=>by
    have e:b=it:=by simpa using hb
    subst e
    exact ⟨_,st,fun v z=>by
      have z':Data.fields _=Data.cell v:=z
      cases z'⟩
  keep:=fun i h h' st k=>k it (by simp) _ st
  item:=by
    intro X hP hw hK hc i pins s σ H E I hf st hg
    subst hP hw hK
    obtain ⟨f0,f1,f2,f3,f4,f5⟩:=hf it (by simp)
    have W:=Walks.range (prog:=X.prog) (w:=X.w) (I.ok.hd hc) it lo 1 n
    refine W.item i s _ _ hg st fun v h' tk hv st' kk=>?_
    obtain ⟨t,rfl⟩:=hv
    have I1:Inv X pins σ H {s with heap:=h',toks:=tk}:=I.turned (fun b o hb e=>kk b o (by simpa using hb) e) f0 f1 f3 f4 f5
    refine ⟨_,rfl,go_of (s:={s with heap:=h',toks:=tk}) (n:="range_iterator") st' rfl rfl (by decide) ⟨.int (lo + i),H,I1,⟨t,?_⟩,⟨rfl,rfl⟩,st',fun b hb=>(hf b hb).1⟩⟩
    rw [Int.mul_one]
  done:=by
    intro X hP hw hK hc i pins s σ H E I hf st hg
    subst hP hw hK
    obtain ⟨f0,f1,f2,f3,f4,f5⟩:=hf it (by simp)
    exact wpAny_pyNext_range_end (I.ok.hd hc) st (by have:n≤i:=hg; lia) fun h' eb=>⟨rfl,I.turned (t':=s.toks) (fun b o hb e=>eb b o hb e) f0 f1 f3 f4 f5⟩
  self:=fun _ _ _ _ _ st h=>wpAny_pyIter_rangeiter st h
section
variable {X:Cx} {tg:Expr}
theorem range_it {pins:List (Addr×Obj)} {σ:St} {H:Hp} {s:Shared} {R:It→Hp→Prop} {E:Value→Shared→Prop} {lo hi:Int} {t u v:Tok} {tk:Nat} (I:Inv X pins σ H s) (h1:-(2 ^ 62)≤lo) (h2:lo < 2 ^ 62) (h3:-(2 ^ 62)≤hi) (h4:hi < 2 ^ 62)
    (q:R (Itr lo (hi - lo).toNat) H):wpAny (model X.prog X.w) X.A (pyIter (.ref s.heap.objs.size)) (PIE X pins σ tg R) E {s with heap:=s.heap.push {cls:=.type "range",data:=.fields #[.int lo t,.int hi u,.int 1 v]},toks:=tk}:=by
  refine wpAny_pyIter_range (IsRange.new ..) (small_one h1 h2 h3 h4) ?_
  have I1:Inv X pins σ H {s with heap:=s.heap.push {cls:=.type "range",data:=.fields #[.int lo t,.int hi u,.int 1 v]},toks:=tk}:=I.kept fun b o e=>Heap.get?_push_of_some _ e
  refine ⟨(s.heap.push {cls:=.type "range",data:=.fields #[.int lo t,.int hi u,.int 1 v]}).objs.size,[(s.heap.push {cls:=.type "range",data:=.fields #[.int lo t,.int hi u,.int 1 v]}).objs.size],_,_,H,rfl,
    I1.kept (t':=tk) fun b o e=>Heap.get?_push_of_some _ e,turn_range _ lo (hi - lo).toNat,?_,fun b hb=>?_,q⟩
  · have e1:lo + ((0:Nat):Int) * 1=lo:=by simp
    have e2:(((hi - lo).toNat:Nat):Int) - ((0:Nat):Int)=Builtin.Range.rangeSize lo hi 1:=by rw [rangeSize_one]; split <;> lia
    show IsRangeIter _ _ (lo + ((0:Nat):Int) * 1) ((((hi - lo).toNat:Nat):Int) - ((0:Nat):Int)) 1
    rw [e1,e2]
    exact Heap.get?_push_size _ rfl
  · have e:b=(s.heap.push {cls:=.type "range",data:=.fields #[.int lo t,.int hi u,.int 1 v]}).objs.size:=by simpa using hb
    subst e
    exact I1.fpOk (Nat.le_refl _) (I1.hok.fresh (Nat.le_refl _))
noncomputable def iRng1 (ta:TA):TI:=fun σ H R=>ta σ H fun vs H1=>∃ j:Int,vs=[.int j]∧-(2 ^ 62)≤j∧j < 2 ^ 62∧R (Itr 0 j.toNat) H1
noncomputable def iRng2 (ta:TA):TI:=fun σ H R=>ta σ H fun vs H1=>∃ i j:Int,vs=[.int i,.int j]∧(-(2 ^ 62)≤i∧i < 2 ^ 62∧-(2 ^ 62)≤j∧j < 2 ^ 62)∧R (Itr i (j - i).toNat) H1
theorem pi_range1 {a:Expr} {ta:TA} {p pos:Pos} (hg:Gl X "range") (hm:X.mg "range"=none) (ha:PA X [a] ta) (hs:starEach [a] X.env=[(false,eval a X.env)]:=by rfl):PI X tg (.Call (.Name "range" p) [a] [] pos) (iRng1 ta):=by
  intro pins s σ H R I h
  refine Call_ (ld_blt I hg hm boot_range (PyProof.Rows.callWith_type1 (thn (ha pos pins s σ H _ I h) fun us s1 ⟨vs,H1,I1,r1,q1⟩=>?_) hs rfl))
  obtain (⟨j,e,q1,q2,q⟩):=q1
  subst e
  cases r1 with
  | cons r rr =>
    cases rr
    obtain (⟨t,rfl⟩):=r
    exact call_range_1 (range_it I1 (by lia) (by lia) q1 q2 (by simpa using q))
theorem pi_range2 {a b:Expr} {ta:TA} {p pos:Pos} (hg:Gl X "range") (hm:X.mg "range"=none) (ha:PA X [a,b] ta) (hs:starEach [a,b] X.env=[(false,eval a X.env),(false,eval b X.env)]:=by rfl) (hs2:starEach [b] X.env=[(false,eval b X.env)]:=by rfl) :
    PI X tg (.Call (.Name "range" p) [a,b] [] pos) (iRng2 ta):=by
  intro pins s σ H R I h
  refine Call_ (ld_blt I hg hm boot_range (PyProof.Rows.callWith_type1 (thn (ha pos pins s σ H _ I h) fun us s1 ⟨vs,H1,I1,r1,q1⟩=>?_) (by rw [hs,hs2]) (by rw [hs2]; rfl)))
  obtain ⟨i,j,e,⟨q1,q2,q3,q4⟩,q⟩:=q1
  subst e
  cases r1 with
  | cons r rr =>
    cases rr with
    | cons r' rr =>
      cases rr
      obtain ⟨t,rfl⟩:=r
      obtain ⟨t',rfl⟩:=r'
      exact call_range_2 (range_it I1 q1 q2 q3 q4 q)
noncomputable def tFor (wi:TI) (g:TG) (tb:TS):TS:=fun D σ H=>wi σ H fun J H1=>∃ W:Nat→Nat→St→Hp→Prop,(∃ m,W 0 m σ H1)∧∀ i m σ H,W i m σ H →
  (J.stop i H∧D.nx σ H)∨(J.go i H∧∃ N:St→Hp→Prop,(∀ σ' H',N σ' H'→∃ m',m' < m∧W (i + 1) m' σ' H')∧∀ x H',J.yld i H x H'→g x σ H' fun σ2 H2=>tb {D with nx:=N,ct:=N,bk:=D.nx} σ2 H2)
noncomputable def pinsAt (fp:List Addr) (h:Heap):List (Addr×Obj):=fp.filterMap fun b=>(h.get? b).map fun o=>(b,o)
theorem mem_pinsAt {fp:List Addr} {h:Heap} {b:Addr} {o:Obj} (hb:b∈fp) (e:h.get? b=some o):(b,o)∈pinsAt fp h:=List.mem_filterMap.mpr ⟨b,hb,by rw [e]; rfl⟩
theorem of_pinsAt {fp:List Addr} {h:Heap} {p:Addr×Obj} (hp:p∈pinsAt fp h):p.1∈fp∧h.get? p.1=some p.2:=by
  obtain ⟨b,hb,e⟩:=List.mem_filterMap.mp hp
  cases q:h.get? b with
  | none=>rw [q] at e; cases e
  | some o =>
    rw [q] at e
    have e':(b,o)=p:=Option.some.inj e
    subst e'
    exact ⟨hb,q⟩
theorem Inv.pinned {pins:List (Addr×Obj)} {σ:St} {H:Hp} {s:Shared} {fp:List Addr} (I:Inv X pins σ H s) (hf:∀ b∈fp,FpOk X pins H b) (ho:∀ b∈fp,∃ o,s.heap.get? b=some o∧∀ v,o.data≠.cell v):Inv X (pins++pinsAt fp s.heap) σ H s :=
  I.pins_of fun p hp=>(List.mem_append.mp hp).elim (fun z=>I.pin p (List.mem_append_right _ z)) fun z=>by
    obtain ⟨hb,e⟩:=of_pinsAt z
    obtain ⟨f0,f1,f2,_⟩:=hf p.1 hb
    obtain ⟨o,e',d⟩:=ho p.1 hb
    rw [e] at e'; cases e'
    exact ⟨e,f0,f1,f2,d⟩
theorem Inv.unpinned {pins pl:List (Addr×Obj)} {σ:St} {H:Hp} {s:Shared} (I:Inv X (pins++pl) σ H s):Inv X pins σ H s:=I.pins_of fun p hp=>I.pin p (List.mem_append_right _ (List.mem_append_left _ hp))
theorem ps_for {iter:Expr} {body:List Stmt} {wi:TI} {g:TG} {tb:TS} {pos:Pos} (hp:PassesOwn (model X.prog X.w) X.A X.env X.xe) (hc:X.calm=true) (hi:PI X tg iter wi) (hg:PG X tg g) (hb:PSs X body tb)
    (hs:∀ x,foldedSetIterable iter X.env x=pure x:=by intro _; rfl):PS X (.For tg iter body [] pos) (tFor wi g tb):=by
  intro pins s σ H D I h
  refine wpAny_For (thn (hi pins s σ H _ I h) fun v s1 h1=>thn h1 fun itv s2 h2=>?_) hs
  obtain ⟨it,fp,tn,J,H2,e,I2,T,st2,f2,W,⟨m0,w0⟩,turn⟩:=h2
  subst e
  -- what stays true of the iterator's objects through the loop
  have stat:∀ {H':Hp},(∀ b∈fp,H' b=none)→∀ b∈fp,FpOk X pins H' b:=fun hn b hb=>⟨hn b hb,(f2 b hb).2⟩
  refine codeAny_forLoop_any (fun n s'=>∃ i σ' H',Inv X pins σ' H' s'∧tn i s'.heap∧(∀ b∈fp,H' b=none)∧W i n σ' H') ?_ m0 ⟨0,σ,H2,I2,st2,fun b hb=>(f2 b hb).1,w0⟩
  rintro n s3 ⟨i,σ3,H3,I3,st3,fr3,w3⟩
  rcases turn i n σ3 H3 w3 with ⟨stop,qn⟩ | ⟨go,N,hN,step⟩
  · refine wpAny_passesOwn hp (thn (T.done X rfl rfl rfl hc i pins s3 σ3 H3 X.xe I3 (stat fr3) st3 stop) fun r s4 ⟨hr,I4⟩=>?_)
    subst hr
    exact wpAny_execs_nil ⟨σ3,H3,I4,qn⟩
  · refine wpAny_passesOwn hp (thn (T.item X rfl rfl rfl hc i pins s3 σ3 H3 X.xe I3 (stat fr3) st3 go) fun r s4 ⟨u,hr,h4⟩=>?_)
    subst hr
    refine wpAny_passesOwn hp (thn h4 fun _ s5 ⟨x,H5,I5,r5,y5,st5,fr5⟩=>?_)
    have I5':=I5.pinned (stat fr5) (T.obj _ _ st5)
    refine wpAny_passesOwn hp (thn (hg _ s5 σ3 H5 x u _ I5' r5 (step x H5 y5)) fun _ s6 ⟨σ6,H6,I6,q6⟩=>?_)
    refine wpAny_passesOwn hp (thn (hb _ s6 σ6 H6 _ I6 q6) fun f s7 q7=>?_)
    have again:∀ {σ7:St} {H7:Hp},Inv X (pins++pinsAt fp s5.heap) σ7 H7 s7→N σ7 H7→∃ m,m < n∧∃ i σ' H',Inv X pins σ' H' s7∧tn i s7.heap∧(∀ b∈fp,H' b=none)∧W i m σ' H':=fun {σ7 H7} I7 n7=>by
      obtain ⟨m',hm,w7⟩:=hN σ7 H7 n7
      refine ⟨m',hm,i + 1,σ7,H7,I7.unpinned,T.keep _ _ _ st5 fun b hb o e=>(I7.pin (b,o) (List.mem_append_right _ (List.mem_append_right _ (mem_pinsAt hb e)))).1,fun b hb=>?_,w7⟩
      obtain ⟨o,e,d⟩:=T.obj _ _ st5 b hb
      exact (I7.pin (b,o) (List.mem_append_right _ (List.mem_append_right _ (mem_pinsAt hb e)))).2.1
    cases f with
    | next=>obtain ⟨σ7,H7,I7,n7⟩:=q7; exact again I7 n7
    | cont=>obtain ⟨σ7,H7,I7,n7⟩:=q7; exact again I7 n7
    | brk=>obtain ⟨σ7,H7,I7,q7⟩:=q7; exact ⟨σ7,H7,I7.unpinned,q7⟩
    | ret v=>obtain ⟨x7,σ7,H7,I7,r7,q7⟩:=q7; exact ⟨x7,σ7,H7,I7.unpinned,r7,q7⟩
end
noncomputable abbrev R2:=V→V→Hp→VK→Prop
noncomputable def OpR (X:Cx) (f:Value→Value→Sem Value) (r:R2):Prop :=
  ∀ (pins:List (Addr×Obj)) (s:Shared) (σ:St) (H:Hp) (x y:V) (v u:Value) (Q:VK),Inv X pins σ H s→RelV x v→RelV y u→r x y H Q →
    wpAny (model X.prog X.w) X.A (f v u) (EP X pins σ Q) X.xe s
noncomputable def UnR (X:Cx) (f:Value→Sem Value) (r:V→Hp→VK→Prop):Prop :=
  ∀ (pins:List (Addr×Obj)) (s:Shared) (σ:St) (H:Hp) (x:V) (v:Value) (Q:VK),Inv X pins σ H s→RelV x v→r x H Q →
    wpAny (model X.prog X.w) X.A (f v) (EP X pins σ Q) X.xe s
noncomputable def CallR (X:Cx) (f:Value) (r:List V→Hp→VK→Prop):Prop :=
  ∀ (pins:List (Addr×Obj)) (s:Shared) (σ:St) (H:Hp) (xs:List V) (us:List Value) (Q:VK),Inv X pins σ H s→Vals xs us→r xs H Q →
    wpAny (model X.prog X.w) X.A (call f us) (EP X pins σ Q) X.xe s
noncomputable def tOp (r:R2) (ta tb:TE):TE:=fun σ H Q=>ta σ H fun x H1=>tb σ H1 fun y H2=>r x y H2 Q
noncomputable def tUn (r:V→Hp→VK→Prop) (ta:TE):TE:=fun σ H Q=>ta σ H fun x H1=>r x H1 Q
noncomputable def rI (C:Int→Int→Prop) (g:Int→Int→V):R2:=fun x y H Q=>∃ i j,x=.int i∧y=.int j∧C i j∧Q (g i j) H
noncomputable def rI0 (g:Int→Int→V):R2:=fun x y H Q=>∃ i j,x=.int i∧y=.int j∧Q (g i j) H
noncomputable def rU (g:Int→V):V→Hp→VK→Prop:=fun x H Q=>∃ i,x=.int i∧Q (g i) H
section
variable {X:Cx} {a b c:Expr} {ta tb tc:TE} {pos:Pos}
theorem binT (ha:PE X a ta) (hb:PE X b tb) {pins:List (Addr×Obj)} {s:Shared} {σ:St} {H:Hp} {R:V→V→Hp→Prop} (I:Inv X pins σ H s)
    (h:ta σ H fun x H1=>tb σ H1 fun y H2=>R x y H2) {Q:Value→Shared→Prop} {f:Value→Value→Sem Value}
    (hf:∀ v u s2 x y H2,Inv X pins σ H2 s2→RelV x v→RelV y u→R x y H2→wpAny (model X.prog X.w) X.A (f v u) Q X.xe s2) :
    wpAny (model X.prog X.w) X.A (eval a X.env) (fun v s₁=>wpAny (model X.prog X.w) X.A (eval b X.env) (fun u s₂=>wpAny (model X.prog X.w) X.A (f v u) Q X.xe s₂) X.xe s₁) X.xe s:=by
  refine thn (ha pins s σ H _ I h) fun v s1 ⟨x,H1,I1,r1,q1⟩=>?_
  refine thn (hb pins s1 σ H1 _ I1 q1) fun u s2 ⟨y,H2,I2,r2,q2⟩=>?_
  exact hf v u s2 x y H2 I2 r1 r2 q2
theorem pe_op {op:Operator} {r:R2} (ho:OpR X (binaryOp op) r) (ha:PE X a ta) (hb:PE X b tb):PE X (.BinOp a op b pos) (tOp r ta tb):=by
  intro pins s σ H Q I h
  exact wpAny_BinOp (binT ha hb I h fun v u s2 x y H2 I2 rx ry q=>ho pins s2 σ H2 x y v u Q I2 rx ry q)
theorem pe_un {op:UnaryOp} {r:V→Hp→VK→Prop} (ho:UnR X (unaryOp op) r) (ha:PE X a ta):PE X (.UnaryOp op a pos) (tUn r ta):=by
  intro pins s σ H Q I h
  exact UnaryOp_ (thn (ha pins s σ H _ I h) fun v s1 ⟨x,H1,I1,r1,q1⟩=>ho pins s1 σ H1 x v Q I1 r1 q1)
theorem opI {f:Value→Value→Sem Value} {C:Int→Int→Prop} {g:Int→Int→Int}
    (rule:∀ (i j:Int) (t u:Tok) (s:Shared) (Q:Value→Shared→Prop) (E:Value→Shared→Prop),C i j→Q (.int (g i j) s.toks) {s with toks:=s.toks + 1}→wpAny (model X.prog X.w) X.A (f (.int i t) (.int j u)) Q E s) :
    OpR X f (rI C fun i j=>.int (g i j)):=by
  intro pins s σ H x y v u Q I rx ry h
  obtain ⟨i,j,rfl,rfl,hc,q⟩:=h
  obtain ⟨t,rfl⟩:=rx
  obtain ⟨t',rfl⟩:=ry
  exact rule i j t t' s _ _ hc ⟨.int (g i j),H,I.tok _,⟨_,rfl⟩,q⟩
theorem opI0 {f:Value→Value→Sem Value} {g:Int→Int→Int}
    (rule:∀ (i j:Int) (t u:Tok) (s:Shared) (Q:Value→Shared→Prop) (E:Value→Shared→Prop),Q (.int (g i j) s.toks) {s with toks:=s.toks + 1}→wpAny (model X.prog X.w) X.A (f (.int i t) (.int j u)) Q E s) :
    OpR X f (rI0 fun i j=>.int (g i j)):=by
  intro pins s σ H x y v u Q I rx ry h
  obtain ⟨i,j,rfl,rfl,q⟩:=h
  obtain ⟨t,rfl⟩:=rx
  obtain ⟨t',rfl⟩:=ry
  exact rule i j t t' s _ _ ⟨.int (g i j),H,I.tok _,⟨_,rfl⟩,q⟩
theorem opB0 {f:Value→Value→Sem Value} {g:Int→Int→Bool}
    (rule:∀ (i j:Int) (t u:Tok) (s:Shared) (Q:Value→Shared→Prop) (E:Value→Shared→Prop),Q (.bool (g i j)) s→wpAny (model X.prog X.w) X.A (f (.int i t) (.int j u)) Q E s) :
    OpR X f (rI0 fun i j=>.bl (g i j)):=by
  intro pins s σ H x y v u Q I rx ry h
  obtain ⟨i,j,rfl,rfl,q⟩:=h
  obtain ⟨t,rfl⟩:=rx
  obtain ⟨t',rfl⟩:=ry
  exact rule i j t t' s _ _ ⟨.bl (g i j),H,I,rfl,q⟩
noncomputable def CDiv (i j:Int):Prop:=0 < j∧j < 1073741824
noncomputable def CPow (i j:Int):Prop:=0≤j∧j≤1000000∧i.natAbs < 2 ^ 64
theorem op_add:OpR X (binaryOp .Add) (rI0 fun i j=>.int (i + j)):=opI0 fun _ _ _ _ _ _ _ q=>add_int q
theorem op_sub:OpR X (binaryOp .Sub) (rI0 fun i j=>.int (i - j)):=opI0 fun _ _ _ _ _ _ _ q=>sub_int q
theorem op_fdiv:OpR X (binaryOp .FloorDiv) (rI CDiv fun i j=>.int (i / j)):=opI fun i j _ _ _ _ _ hc q=>by
  have h1:(0:Int) < j:=hc.1
  have h2:j < 1073741824:=hc.2
  exact floordiv_int (by lia) (by rw [Int.fdiv_eq_ediv_of_nonneg i (by lia)]; exact q) (.inl (PyProof.noPylong_small (by lia)))
theorem op_mod:OpR X (binaryOp .Mod) (rI (fun _ j=>0 < j) fun i j=>.int (i % j)):=opI fun i j _ _ _ _ _ hc q=>by
  have h1:(0:Int) < j:=hc
  exact mod_int' (by lia) (by rw [Int.fmod_eq_emod_of_nonneg i (by lia)]; exact q)
theorem op_pow:OpR X (binaryOp .Pow) (rI CPow fun i j=>.int (i ^ j.toNat)):=opI fun _ _ _ _ _ _ _ hc q=>pow_int_small hc.1 hc.2.1 hc.2.2 q
theorem unI {f:Value→Sem Value} {g:Int→Int}
    (rule:∀ (i:Int) (t:Tok) (s:Shared) (Q:Value→Shared→Prop) (E:Value→Shared→Prop),Q (.int (g i) s.toks) {s with toks:=s.toks + 1}→wpAny (model X.prog X.w) X.A (f (.int i t)) Q E s) :
    UnR X f (rU fun i=>.int (g i)):=by
  intro pins s σ H x v Q I rx h
  obtain ⟨i,rfl,q⟩:=h
  obtain ⟨t,rfl⟩:=rx
  exact rule i t s _ _ ⟨.int (g i),H,I.tok _,⟨_,rfl⟩,q⟩
theorem un_neg:UnR X (unaryOp .USub) (rU fun i=>.int (-i)):=unI fun _ _ _ _ _ q=>neg_int q
end
section
variable {X:Cx} {a b c:Expr} {ta tb tc:TE} {pos:Pos}
theorem op_lt:OpR X (compareOp .Lt) (rI0 fun i j=>.bl (decide (i < j))):=opB0 fun _ _ _ _ _ _ _ q=>lt_int q
theorem op_le:OpR X (compareOp .LtE) (rI0 fun i j=>.bl (decide (i≤j))):=opB0 fun _ _ _ _ _ _ _ q=>le_int q
theorem op_gt:OpR X (compareOp .Gt) (rI0 fun i j=>.bl (decide (j < i))):=opB0 fun _ _ _ _ _ _ _ q=>gt_int q
theorem op_ge:OpR X (compareOp .GtE) (rI0 fun i j=>.bl (decide (j≤i))):=opB0 fun _ _ _ _ _ _ _ q=>ge_int q
theorem pe_cmpR {op:CmpOp} {r:R2} (ho:OpR X (compareOp op) r) (ha:PE X a ta) (hb:PE X b tb) (hm:behindInMarks op b=false):PE X (.Compare a [op] [b] pos) (tOp r ta tb):=by
  intro pins s σ H Q I h
  exact wpAny_Compare1 (binT ha hb I h fun v u s2 x y H2 I2 rx ry q=>ho pins s2 σ H2 x y v u Q I2 rx ry q) hm
noncomputable def tTest (t:TE):TT:=fun σ H Q=>t σ H fun x H'=>∃ k,x=.bl k∧Q k H'
theorem pt_cmpR {op:CmpOp} {r:R2} (ho:OpR X (compareOp op) r) (ha:PE X a ta) (hb:PE X b tb) (hm:behindInMarks op b=false):PT X (.Compare a [op] [b] pos) (tTest (tOp r ta tb)):=by
  intro pins s σ H Q I h
  refine wpAny_isTrue_Compare1 (thn (ha pins s σ H _ I h) fun v s1 ⟨x,H1,I1,r1,q1⟩=>thn (hb pins s1 σ H1 _ I1 q1) fun u s2 ⟨y,H2,I2,r2,q2⟩ =>
    thn (ho pins s2 σ H2 x y v u _ I2 r1 r2 q2) fun c s3 ⟨z,H3,I3,r3,k,e,q3⟩=>?_) hm
  subst e
  cases r3
  exact wpAny_truthy_bool ⟨H3,I3,q3⟩
theorem line63:(sizeLine:Nat) < 2 ^ 63:=by rw [sizeLine_eq]; decide
theorem vals1 {x:V} {us:List Value} (r:Vals [x] us):∃ u,us=[u]∧RelV x u:=by
  cases r with
  | cons r1 r2=>cases r2; exact ⟨_,rfl,r1⟩
theorem vals2 {x y:V} {us:List Value} (r:Vals [x,y] us):∃ u w',us=[u,w']∧RelV x u∧RelV y w':=by
  cases r with
  | cons r1 r2 =>
    cases r2 with
    | cons r3 r4=>cases r4; exact ⟨_,_,rfl,r1,r3⟩
theorem call_abs:CallR X (.builtin "abs") (fun xs H Q=>∃ i,xs=[.int i]∧Q (.int (if i < 0 then -i else i)) H):=by
  intro pins s σ H xs us Q I r h
  obtain ⟨i,rfl,q⟩:=h
  obtain ⟨u,rfl,t,rfl⟩:=vals1 r
  exact call_abs_int fun u tk=>⟨.int (if i < 0 then -i else i),H,I.tok _,⟨_,rfl⟩,q⟩
theorem call_max2 (hc:X.calm=true):CallR X (.builtin "max") (fun xs H Q=>∃ i j,xs=[.int i,.int j]∧Q (.int (if j > i then j else i)) H):=by
  intro pins s σ H xs us Q I r h
  obtain ⟨i,j,rfl,q⟩:=h
  obtain ⟨u,w',rfl,⟨t,rfl⟩,⟨t',rfl⟩⟩:=vals2 r
  refine max_two_ints (I.ok.hd hc) fun h' tk k=>⟨_,H,I.kept k,?_,q⟩
  by_cases hj:j > i
  · rw [if_pos hj,if_pos hj]; exact ⟨_,rfl⟩
  · rw [if_neg hj,if_neg hj]; exact ⟨_,rfl⟩
theorem call_min2 (hc:X.calm=true):CallR X (.builtin "min") (fun xs H Q=>∃ i j,xs=[.int i,.int j]∧Q (.int (if j < i then j else i)) H):=by
  intro pins s σ H xs us Q I r h
  obtain ⟨i,j,rfl,q⟩:=h
  obtain ⟨u,w',rfl,⟨t,rfl⟩,⟨t',rfl⟩⟩:=vals2 r
  refine min_two_ints (I.ok.hd hc) fun h' tk k=>⟨_,H,I.kept k,?_,q⟩
  by_cases hj:j < i
  · rw [if_pos hj,if_pos hj]; exact ⟨_,rfl⟩
  · rw [if_neg hj,if_neg hj]; exact ⟨_,rfl⟩
theorem call_str_int:CallR X (.type "str") (fun xs H Q=>∃ i,xs=[.int i]∧i.natAbs.log2 < 1920∧Q (.str (toString i)) H):=by
  intro pins s σ H xs us Q I r h
  obtain ⟨i,rfl,hz,q⟩:=h
  obtain ⟨u,rfl,t,rfl⟩:=vals1 r
  exact PySem.P.str_of_int hz ⟨.str _,H,I.tok _,⟨_,rfl⟩,q⟩
end
structure ObjM (h:Heap) (x dx C:Addr) (mA:Str→Option Value):Prop where
  obj:h.get? x=some (PySem.W.instObj C dx)
  ns:h.Ns1 dx mA
  ne:dx≠x
theorem lookIn_ns {h:Heap} {dx:Addr} {mA:Str→Option Value} (n:h.Ns1 dx mA):∃ od,h.get? dx=some od∧∀ name,PySem.W.lookIn name od=some (mA name):=by
  obtain ⟨o,es,ep,ho,hd,hk,_,hm⟩:=n
  refine ⟨o,ho,fun name=>?_⟩
  have e:=hm name
  unfold nsFind findBy at e
  rw [← Array.find?_toList] at e
  unfold PySem.W.lookIn
  rw [hd]
  dsimp only
  split
  · rename_i y q
    rw [q] at e
    exact congrArg some e
  · rename_i q
    rw [q] at e
    have a:es.toList.any (·.refKey)=false:=by
      rw [List.any_eq_false]
      intro y hy
      obtain ⟨z,t,hkey⟩:=hk y (Array.mem_toList_iff.mp hy)
      simp [DictEntry.refKey,hkey]
    have a':¬ es.toList.any (·.refKey)=true:=by rw [a]; exact Bool.false_ne_true
    rw [if_neg a']
    exact congrArg some e
theorem ObjM.look {h:Heap} {x dx C:Addr} {mA:Str→Option Value} (I:ObjM h x dx C mA):∃ od,PySem.W.InstAt h x (PySem.W.instObj C dx) C (some od)∧∀ name,PySem.W.lookIn name od=some (mA name) :=
  let ⟨od,ho,hl⟩:=lookIn_ns I.ns
  ⟨od,⟨I.obj,rfl,rfl,ho⟩,hl⟩
section
variable {prog:Program} {w:World} {A:Around} {E:Value→Shared→Prop} {s:Shared} {K:PySem.W.Frag} {x dx C f:Addr} {mA:Str→Option Value} {name:Str} {v:Value}
theorem get_map {expr:Bool} {Q:Value→Shared→Prop} (X:K.In s.heap) (I:ObjM s.heap x dx C mA) (hg:PySem.W.plainGet K C name=true) (hh:PySem.W.hasDictIn K C=true)
    (ha:PySem.W.findIn K (.ref C) name=some none) (hv:mA name=some v) (hv':PySem.W.handedIn v=true) (h:Q v {s with toks:=s.toks + 1}) :
    wpAny (model prog w) A (getAttr (.ref x) name expr) Q E s:=by
  obtain ⟨od,J,hl⟩:=I.look
  exact PySem.W.get_value X J (PySem.W.plainGet_of hg).1 (PySem.W.findObj_own hh ha rfl (by rw [hl,hv])) hv' h
theorem set_map {ns:List Str} {Q:Unit→Shared→Prop} (X:K.In s.heap) (I:ObjM s.heap x dx C mA)
    (hs:PySem.W.findIn K (.ref C) "__setattr__"=some (some (.builtin "object.__setattr__"))) (hp:PySem.W.plainOver K C=true) (ht:PySem.W.takerIn K C name=some none) (hh:PySem.W.hasDictIn K C=true)
    (hw:PySem.Within mA ns) (hsz:ns.length≤sizeLine)
    (h:∀ h',ObjM h' x dx C (fun y=>if y=name then some v else mA y)→Heap.SameBut dx s.heap h'→Q () {s with heap:=h',toks:=s.toks + 2}) :
    wpAny (model prog w) A (setAttr (.ref x) name v) Q E s:=by
  obtain ⟨od,J,hl⟩:=I.look
  refine PySem.W.set_plain X J hs (PySem.W.osa_open (s:={s with toks:=s.toks + 1}) (r:=none) X J hp ht fun b=>?_)
  obtain ⟨cd,hc,hd'⟩:=PySem.W.any_some hh
  have hx:s.heap.get? x=some ⟨.ref C,some dx,.plain,#[]⟩:=I.obj
  refine wpAny_bind (wpAny_pure (wpAny_bind (wpAny_bind (wpAny_loadPart hx (wpAny_bind (PySem.W.Looks.here (s:={s with toks:=s.toks + 1}) (PySem.W.looks_clsIn X hc) ?_))))))
  rw [hd']
  refine wpAny_pure (a:=some dx) (wpAny_bind (wpAny_pure (wpAny_bind ?_)))
  refine wpAny_nsSet1 (s:={s with toks:=s.toks + 1}) I.ns fun h' hn2 hs2=>?_
  obtain ⟨oD,esD,epD,hoD,hdD,hcD⟩:=hn2.count (PySem.Within.cons name v hw)
  refine wpAny_bind (wpAny_lookBehind hoD (by rw [hdD]; exact pastItsLine_dict (Nat.le_trans hcD (by rw [List.length_cons]; lia))) ?_)
  exact wpAny_pure (h _ ⟨(hs2.2 _ (Ne.symm I.ne)).trans I.obj,hn2,I.ne⟩ hs2)
theorem make_map {R:Result→Shared→Prop} {vs:List Value} {kw:List (Str×Value)} (X:K.In s.heap) (hm:PySem.W.makesIn K C=true)
    (hi:PySem.W.findIn K (.ref C) "__init__"=some (some (.ref f))) (hf:PySem.W.typeIn K (.ref f)=some (.type "function"))
    (h:codeAny (model prog w) (A.under (.builtin "type.__call__" ⟨.ref C::vs,kw⟩)) (.call (.ref f) ⟨.ref (s.heap.objs.size + 1)::vs,kw⟩) (PySem.W.InitBack (s.heap.objs.size + 1) R)
      {s with heap:=(s.heap.push PySem.W.emptyDict).push (PySem.W.instObj C s.heap.objs.size)}) :
    codeAny (model prog w) A (.call (.ref C) ⟨vs,kw⟩) R s:=by
  obtain ⟨hh,g,d,t,os⟩:=s
  exact PySem.W.make_core (PySem.W.makes_of X hm) (PySem.W.looks_findIn X hi) (fun self=>PySem.W.bind_fn X self hf) (.inl rfl) h
theorem make_map0 {R:Result→Shared→Prop} (X:K.In s.heap) (hm:PySem.W.makesIn K C=true)
    (hi:PySem.W.findIn K (.ref C) "__init__"=some (some (.builtin "object.__init__")))
    (hb:∀ self,PySem.W.Looks (model prog w) s.heap (bindSpecial (.builtin "object.__init__") self) (.builtin "object.__init__",[self]))
    (h:codeAny (model prog w) (A.under (.builtin "type.__call__" ⟨[.ref C],[]⟩)) (.call (.builtin "object.__init__") ⟨[.ref (s.heap.objs.size + 1)],[]⟩) (PySem.W.InitBack (s.heap.objs.size + 1) R)
      {s with heap:=(s.heap.push PySem.W.emptyDict).push (PySem.W.instObj C s.heap.objs.size)}) :
    codeAny (model prog w) A (.call (.ref C) ⟨[],[]⟩) R s:=by
  obtain ⟨hh,g,d,t,os⟩:=s
  exact PySem.W.make_core (PySem.W.makes_of X hm) (PySem.W.looks_findIn X hi) hb (.inr ⟨rfl,rfl⟩) h
end
noncomputable def putF (f:Str) (v:V):List (Str×V)→List (Str×V)
  | []=>[(f,v)]
  | (g,x)::r=>if g=f then (g,v)::r else (g,x)::putF f v r
theorem lookup_putF (f g:Str) (v:V):∀ fs:List (Str×V),(putF f v fs).lookup g=if g=f then some v else fs.lookup g
  | []=>by
    show List.lookup g [(f,v)]=_
    by_cases h:g=f
    · have hb:(g == f)=true:=beq_iff_eq.mpr h
      simp only [List.lookup,hb,if_pos h]
    · have hb:(g == f)=false:=beq_eq_false_iff_ne.mpr h
      simp only [List.lookup,hb,if_neg h]
  | (k,x)::r=>by
    have ih:=lookup_putF f g v r
    rw [show putF f v ((k,x)::r)=(if k=f then (k,v)::r else (k,x)::putF f v r) from rfl]
    by_cases hk:k=f
    · rw [if_pos hk]
      by_cases h:g=k
      · have hb:(g == k)=true:=beq_iff_eq.mpr h
        simp only [List.lookup,hb,if_pos (h.trans hk)]
      · have hb:(g == k)=false:=beq_eq_false_iff_ne.mpr h
        simp only [List.lookup,hb,if_neg (fun e:g=f=>h (e.trans hk.symm))]
    · rw [if_neg hk]
      by_cases h:g=k
      · have hb:(g == k)=true:=beq_iff_eq.mpr h
        simp only [List.lookup,hb,if_neg (fun e:g=f=>hk (h.symm.trans e))]
      · have hb:(g == k)=false:=beq_eq_false_iff_ne.mpr h
        simp only [List.lookup,hb]
        exact ih
theorem keys_putF (f:Str) (v:V):∀ fs:List (Str×V),f∈(putF f v fs).map (·.1)∧∀ g,g∈fs.map (·.1)→g∈(putF f v fs).map (·.1)
  | []=>⟨by simp [putF],fun g h=>by simp at h⟩
  | (k,x)::r=>by
    obtain ⟨i1,i2⟩:=keys_putF f v r
    rw [show putF f v ((k,x)::r)=(if k=f then (k,v)::r else (k,x)::putF f v r) from rfl]
    by_cases hk:k=f
    · rw [if_pos hk]
      subst hk
      exact ⟨by simp,fun g h=>by simpa using h⟩
    · rw [if_neg hk]
      refine ⟨?_,fun g h=>?_⟩
      · rw [List.map_cons]
        exact List.mem_cons_of_mem _ i1
      · rw [List.map_cons] at h ⊢
        rcases List.mem_cons.mp h with e | e
        · exact List.mem_cons.mpr (.inl e)
        · exact List.mem_cons_of_mem _ (i2 g e)
theorem length_putF (f:Str) (v:V):∀ fs:List (Str×V),(putF f v fs).length≤fs.length + 1
  | []=>by simp [putF]
  | (k,x)::r=>by
    have ih:=length_putF f v r
    rw [show putF f v ((k,x)::r)=(if k=f then (k,v)::r else (k,x)::putF f v r) from rfl]
    by_cases hk:k=f
    · rw [if_pos hk,List.length_cons,List.length_cons]; lia
    · rw [if_neg hk,List.length_cons,List.length_cons]; lia
theorem RelO.some_of {v:V} {o:Option Value} (r:RelO (some v) o):∃ u,o=some u∧RelV v u:=by
  cases o with
  | none=>exact (show False from r).elim
  | some u=>exact ⟨u,rfl,r⟩
theorem handed_of {v:V} {u:Value} (r:RelV v u):PySem.W.handedIn u=true:=by
  cases v with
  | non=>cases (show u=Value.none from r); rfl
  | bl b=>cases (show u=Value.bool b from r); rfl
  | int i=>obtain ⟨t,e⟩:=(show ∃ t,u=Value.int i t from r); cases e; rfl
  | str x=>obtain ⟨t,e⟩:=(show ∃ t,u=Value.str x t from r); cases e; rfl
  | byt b=>obtain ⟨t,e⟩:=(show ∃ t,u=Value.bytes b t from r); cases e; rfl
  | flt b=>obtain ⟨t,e⟩:=(show ∃ t,u=Value.float b t from r); cases e; rfl
  | ref a=>cases (show u=Value.ref a from r); rfl
  | ty n=>cases (show u=Value.type n from r); rfl
section
variable {P:Program} {w:World} {H H':Hp} {h h':Heap} {a C dx:Addr} {fs fs':List (Str×V)}
theorem ins_get (hok:HOk P w H h) (e:H a=some (.ins C dx fs)):∃ mA,ObjM h a dx C mA∧(∀ f,RelO (fs.lookup f) (mA f))∧PySem.Within mA (fs.map (·.1))∧fs.length≤1000∧H dx=some (.own a):=by
  obtain ⟨d,z,ne,ob,mA,n,r,q⟩:=(show ObjOk P w H h a (.ins C dx fs) from hok a _ e)
  exact ⟨mA,⟨ob,n,ne⟩,r,q,z,d⟩
end
structure Cls (K:PySem.W.Frag) (C:Addr):Prop where
  pg:PySem.W.plainGet K C Str.empty=true
  hd:PySem.W.hasDictIn K C=true
  po:PySem.W.plainOver K C=true
  sa:PySem.W.findIn K (.ref C) "__setattr__"=some (some (.builtin "object.__setattr__"))
theorem Cls.get {K:PySem.W.Frag} {C:Addr} (c:Cls K C) (f:Str):PySem.W.plainGet K C f=true:=c.pg
noncomputable def NoAttr (K:PySem.W.Frag) (C:Addr) (f:Str):Prop:=PySem.W.findIn K (.ref C) f=some none
theorem NoAttr.taker {K:PySem.W.Frag} {C:Addr} {f:Str} (n:NoAttr K C f):PySem.W.takerIn K C f=some none:=by
  unfold PySem.W.takerIn
  rw [show PySem.W.findIn K (.ref C) f=some none from n]
  rfl
structure Meth (K:PySem.W.Frag) (C:Addr) (m:Str) (f:Addr):Prop where
  at_:PySem.W.findIn K (.ref C) m=some (some (.ref f))
  fn:PySem.W.isFn K (.ref f)=true
  kp:PySem.W.keepIn K (.ref f)=true
section
variable {X:Cx} {pins:List (Addr×Obj)} {σ:St} {H:Hp} {s:Shared} {a C dx:Addr} {fs:List (Str×V)} {f:Str} {v:V} {A:Around} {E:Value→Shared→Prop}
theorem getattr_ok {b:Bool} {Q:Value→Shared→Prop} (I:Inv X pins σ H s) (e:H a=some (.ins C dx fs)) (c:Cls X.K C) (n:NoAttr X.K C f) (l:fs.lookup f=some v)
    (h:∀ u s',Inv X pins σ H s'→RelV v u→Q u s'):wpAny (model X.prog X.w) A (getAttr (.ref a) f b) Q E s:=by
  obtain ⟨mA,O,r,_,_,_⟩:=ins_get I.hok e
  obtain ⟨u,hu,ru⟩:=RelO.some_of (v:=v) (o:=mA f) (by rw [← l]; exact r f)
  exact get_map I.kIn O (c.get f) c.hd n hu (handed_of ru) (h u _ (I.tok _) ru)
theorem setattr_ok {y:V} {u:Value} {Q:Unit→Shared→Prop} (I:Inv X pins σ H s) (e:H a=some (.ins C dx fs)) (c:Cls X.K C) (n:NoAttr X.K C f) (hl:fs.length < 1000) (ry:RelV y u)
    (h:∀ s',Inv X pins σ (upd H a (.ins C dx (putF f y fs))) s'→Q () s'):wpAny (model X.prog X.w) A (setAttr (.ref a) f u) Q E s:=by
  obtain ⟨mA,O,r,wi,_,ho⟩:=ins_get I.hok e
  have hz:(fs.map (·.1)).length≤sizeLine:=by rw [List.length_map,sizeLine_eq]; lia
  refine set_map I.kIn O c.sa c.po n.taker c.hd wi hz fun h' O' sb=>h _ ?_
  have hd:∃ o,h'.get? dx=some o:=let ⟨o,_,_,e',_⟩:=O'.ns; ⟨o,e'⟩
  refine I.write (x:=a) (e:=dx) (by rw [e]; exact True.intro) (.inr ho) (fun b q hb z=>(sb.2 b hb).trans z) hd ?_
  refine ⟨by rw [upd_ne O.ne]; exact ho,?_,O.ne,O'.obj,_,O'.ns,fun g=>?_,fun g hg=>?_⟩
  · have:=length_putF f y fs; lia
  · show RelO ((putF f y fs).lookup g) (if g=f then some u else mA g)
    rw [lookup_putF]
    by_cases q:g=f
    · rw [if_pos q,if_pos q]; exact ry
    · rw [if_neg q,if_neg q]; exact r g
  · by_cases q:g=f
    · rw [q]; exact (keys_putF f y fs).1
    · refine (keys_putF f y fs).2 g (wi g fun z=>hg ?_)
      show (if g=f then some u else mA g)=none
      rw [if_neg q]; exact z
theorem Inv.made (I:Inv X pins σ H s):Inv X pins σ (upd (upd H s.heap.objs.size (.own (s.heap.objs.size + 1))) (s.heap.objs.size + 1) (.ins C s.heap.objs.size []))
    {s with heap:=(s.heap.push PySem.W.emptyDict).push (PySem.W.instObj C s.heap.objs.size)}:=by
  have e1:(s.heap.push PySem.W.emptyDict).get? s.heap.objs.size=some PySem.W.emptyDict:=Heap.get?_push_size s.heap rfl
  have e2:((s.heap.push PySem.W.emptyDict).push (PySem.W.instObj C s.heap.objs.size)).get? (s.heap.objs.size + 1)=some (PySem.W.instObj C s.heap.objs.size):=by
    have:=Heap.get?_push_size (s.heap.push PySem.W.emptyDict) (o:=PySem.W.instObj C s.heap.objs.size) rfl
    rwa [Heap.size_push] at this
  have e3:(s.heap.push PySem.W.emptyDict).Ns s.heap.objs.size (fun _=>none):=⟨PySem.W.emptyDict,#[],_,e1,rfl,(fun e he=>absurd he (by simp)),fun _=>rfl⟩
  have I1:=I.laid (a:=s.heap.objs.size) (o:=.own (s.heap.objs.size + 1)) (h':=s.heap.push PySem.W.emptyDict) (t':=s.toks) (fun b u q=>Heap.get?_push_of_some _ q) (Nat.le_refl _) ⟨_,e1⟩
  refine I1.laid (a:=s.heap.objs.size + 1) (o:=.ins C s.heap.objs.size []) (t':=s.toks) (fun b u q=>Heap.get?_push_of_some _ q) (Nat.le_of_eq (Heap.size_push _ _)) ?_
  have ne:s.heap.objs.size≠s.heap.objs.size + 1:=Nat.ne_of_lt (Nat.lt_succ_self _)
  refine ⟨by rw [upd_ne ne,upd_same],Nat.zero_le _,ne,e2,fun _=>none,(Heap.Ns1.of_empty e3).at fun o q=>Heap.get?_push_of_some _ q,fun _=>True.intro,fun y hy=>absurd rfl hy⟩
theorem attr_of {prog:Program} {w:World} {env:Env} {e:Expr} {f:Str} {pos:Pos} {s:Shared} {Q:Value→Shared→Prop} (hb:attributeBase e f env (eval e env)=eval e env)
    (h:wpAny (model prog w) A (eval e env) (fun o s₁=>wpAny (model prog w) A (getAttr o f true) Q E s₁) E s):wpAny (model prog w) A (eval (.Attribute e f pos) env) Q E s :=
  Attribute_any_ h (by rw [arm_eval_Attribute,hb])
end
noncomputable def tFld (K:PySem.W.Frag) (ta:TE) (f:Str):TE:=fun σ H Q=>ta σ H fun x H1=>∃ a C dx fs v,x=.ref a∧H1 a=some (.ins C dx fs)∧Cls K C∧NoAttr K C f∧fs.lookup f=some v∧Q v H1
noncomputable def sFld (K:PySem.W.Frag) (ta tv:TE) (f:Str):TS:=fun D σ H=>tv σ H fun y H1=>ta σ H1 fun x H2=>∃ a C dx fs,x=.ref a∧H2 a=some (.ins C dx fs)∧Cls K C∧NoAttr K C f∧fs.length < 1000 ∧
  D.nx σ (upd H2 a (.ins C dx (putF f y fs)))
section
variable {X:Cx} {o e value:Expr} {f:Str} {pos pos' tpos:Pos} {ta tv:TE}
theorem pe_fld (he:PE X e ta) (hb:attributeBase e f X.env (eval e X.env)=eval e X.env):PE X (.Attribute e f pos) (tFld X.K ta f):=by
  intro pins s σ H Q I h
  refine attr_of hb (thn (he pins s σ H _ I h) fun u s1 ⟨x,H1,I1,rx,a,C,dx,fs,v,ex,ea,c,n,l,q⟩=>?_)
  subst ex
  obtain rfl:u=Value.ref a:=rx
  exact getattr_ok I1 ea c n l fun u' s2 I2 ru=>⟨v,H1,I2,ru,q⟩
theorem ps_fld (ha:PE X o ta) (hv:PE X value tv) (hs:swapsWith value (some (.Attribute o f pos')) pos.line X.env=pure false):PS X (.Assign [.Attribute o f pos'] value pos) (sFld X.K ta tv f):=by
  intro pins s σ H D I h
  refine plainObj_wpAny_Assign_Attribute (thn (hv pins s σ H _ I h) fun u s1 ⟨y,H1,I1,ry,q⟩=>thn (ha pins s1 σ H1 _ I1 q) fun ov s2 ⟨x,H2,I2,rx,a,C,dx,fs,ex,ea,c,n,l,q2⟩=>?_) hs
  subst ex
  obtain rfl:ov=Value.ref a:=rx
  exact setattr_ok I2 ea c n l ry fun s3 I3=>⟨σ,_,I3,q2⟩
end
section
variable {X:Cx} {pins:List (Addr×Obj)} {σ:St} {H:Hp} {s:Shared} {A:Around} {E:Value→Shared→Prop} {Q:Value→Shared→Prop} {c:Value} {b:Bool}
inductive TyOf (K:PySem.W.Frag) (H:Hp):V→Value→Prop where
  | non:TyOf K H .non (.type "NoneType")
  | bl (x:Bool):TyOf K H (.bl x) (.type "bool")
  | int (i:Int):TyOf K H (.int i) (.type "int")
  | str (x:Str):TyOf K H (.str x) (.type "str")
  | flt (x:UInt64):TyOf K H (.flt x) (.type "float")
  | lst {a:Addr} {xs:List V} (e:H a=some (.lst xs)):TyOf K H (.ref a) (.type "list")
  | frz {a:Addr} {o:Obj} {xs:List V} (e:H a=some (.frz o (.lst xs))):TyOf K H (.ref a) (.type "list")
  | tup {a:Addr} {xs:List V} (e:H a=some (.tup xs)):TyOf K H (.ref a) (.type "tuple")
  | dK {a:Addr} {kvs:List (Key×V)} (e:H a=some (.dK kvs)):TyOf K H (.ref a) (.type "dict")
  | dT {a:Addr} {kvs:List (List Key×V)} (e:H a=some (.dT kvs)):TyOf K H (.ref a) (.type "dict")
  | ins {a C dx:Addr} {fs:List (Str×V)} (e:H a=some (.ins C dx fs)) (cl:Cls K C) (ha:PySem.W.findIn K (.ref C) "__class__"=some (some (.builtin "object.__class__")))
      (hn:PySem.W.specialIn K (.builtin "object.__class__") "__get__"=some (some (.builtin "getset_descriptor.__get__"))) (htk:PySem.W.takesIn K (.builtin "object.__class__")=some true)
      (hm:PySem.W.mroIn K C (.type "object")=some true):TyOf K H (.ref a) (.ref C)
theorem isinst_ok {x:V} {u t:Value} (I:Inv X pins σ H s) (rx:RelV x u) (ty:TyOf X.K H x t) (e:PySem.W.kitOne X.K t c=some b) (h:∀ tk,Q (.bool b) {s with toks:=tk}) :
    wpAny (model X.prog X.w) A (call (.builtin "isinstance") [u,c]) Q E s:=by
  cases ty with
  | non=>cases (show u=Value.none from rx); exact PySem.W.kia_one PySem.W.kitx_none I.kIn True.intro e (fun z=>nomatch z) h
  | bl y=>cases (show u=Value.bool y from rx); exact PySem.W.kia_one PySem.W.kitx_bool I.kIn True.intro e (fun z=>nomatch z) h
  | int i=>obtain ⟨t,q⟩:=(show ∃ t,u=Value.int i t from rx); cases q; exact PySem.W.kia_one PySem.W.kitx_int I.kIn True.intro e (fun z=>nomatch z) h
  | str y=>obtain ⟨t,q⟩:=(show ∃ t,u=Value.str y t from rx); cases q; exact PySem.W.kia_one PySem.W.kitx_str I.kIn True.intro e (fun z=>nomatch z) h
  | flt y=>obtain ⟨t,q⟩:=(show ∃ t,u=Value.float y t from rx); cases q; exact PySem.W.kia_one PySem.W.kitx_float I.kIn True.intro e (fun z=>nomatch z) h
  | @lst a xs ea =>
    cases (show u=Value.ref a from rx)
    obtain ⟨_,_,n,_,h1⟩:=(show ObjOk X.prog X.w H s.heap a (.lst xs) from I.hok a _ ea)
    exact PySem.W.kia_one PySem.W.kitx_list I.kIn ⟨_,h1,rfl⟩ e (fun z=>nomatch z) h
  | @frz a ob xs ea =>
    cases (show u=Value.ref a from rx)
    obtain ⟨_,_,_,n,_,h1⟩:=(show ObjOk X.prog X.w H s.heap a (.frz ob (.lst xs)) from I.hok a _ ea)
    exact PySem.W.kia_one PySem.W.kitx_list I.kIn ⟨_,h1,rfl⟩ e (fun z=>nomatch z) h
  | @tup a xs ea =>
    cases (show u=Value.ref a from rx)
    obtain ⟨_,_,_,p⟩:=(show ObjOk X.prog X.w H s.heap a (.tup xs) from I.hok a _ ea)
    obtain ⟨o,h1,h2,_⟩:=p
    exact PySem.W.kia_one PySem.W.kitx_tuple I.kIn ⟨o,h1,h2⟩ e (fun z=>nomatch z) h
  | @dK a kvs ea =>
    cases (show u=Value.ref a from rx)
    obtain ⟨_,_,vs,_,p⟩:=(show ObjOk X.prog X.w H s.heap a (.dK kvs) from I.hok a _ ea)
    obtain ⟨o,es,ep,h1,h2,_⟩:=p
    exact PySem.W.kia_one PySem.W.kitx_dict I.kIn ⟨o,h1,h2.1⟩ e (fun z=>nomatch z) h
  | @dT a kvs ea =>
    cases (show u=Value.ref a from rx)
    obtain ⟨_,_,xs,_,o,es,ep,h1,h2,_⟩:=(show ObjOk X.prog X.w H s.heap a (.dT kvs) from I.hok a _ ea)
    exact PySem.W.kia_one PySem.W.kitx_dict I.kIn ⟨o,h1,h2.1⟩ e (fun z=>nomatch z) h
  | @ins a C dx fs ea cl ha hn htk hm =>
    cases (show u=Value.ref a from rx)
    obtain ⟨mA,O,_⟩:=ins_get I.hok ea
    obtain ⟨od,J,_⟩:=O.look
    exact PySem.W.kia_one (PySem.W.kitx_own (cl.get _) cl.hd ha hn htk hm) I.kIn J e (fun z=>nomatch z) h
end
structure Room (k:Nat) (A:Around):Prop where
  hd:A.handled=none
  dp:A.depth + 3 * k + 5 < recursionLimit
  un:A.units + 16 * k + 200 < cLine
theorem Room.mono {j k:Nat} {A:Around} (r:Room k A) (h:j≤k):Room j A:=⟨r.hd,by have:=r.dp; lia,by have:=r.un; lia⟩
theorem Room.deeper {k:Nat} {A:Around} (r:Room (k + 1) A) (env:Env):Room k (A.deeper env) :=
  ⟨r.hd,by have:=r.dp; show A.depth + 1 + 3 * k + 5 < _; lia,by have:=r.un; show A.units + 3 + 16 * k + 200 < _; lia⟩
theorem make_depth {A:Around} {C:Addr} {us:List Value} {kw:List (Str×Value)}:(A.under (.builtin "type.__call__" ⟨.ref C::us,kw⟩)).depth=A.depth + 1:=by
  first | rfl | simp [Around.under,Code.weight,Code.isCreation,Code.isGuard,Code.isCaller,Code.frames,Code.isFrame,guardIds]
theorem make_units {A:Around} {C:Addr} {us:List Value} {kw:List (Str×Value)}:(A.under (.builtin "type.__call__" ⟨.ref C::us,kw⟩)).units=A.units + 1:=by
  first | rfl | simp [Around.under,Code.cUnits,Code.frames,Code.isFrame]
theorem Room.make {k:Nat} {A:Around} (r:Room (k + 1) A) (C:Addr) (us:List Value) (kw:List (Str×Value)):Room k (A.under (.builtin "type.__call__" ⟨.ref C::us,kw⟩)) :=
  ⟨r.hd,by have:=r.dp; rw [make_depth]; lia,by have:=r.un; rw [make_units]; lia⟩
theorem Room.depth {k:Nat} {A:Around} (r:Room k A):A.depth < recursionLimit:=by have:=r.dp; lia
noncomputable def tNil:TA:=fun _ H Q=>Q [] H
noncomputable def tCons (ta:TE) (tr:TA):TA:=fun σ H Q=>ta σ H fun x H1=>tr σ H1 fun xs H2=>Q (x::xs) H2
section
variable {X:Cx} {e:Expr} {es:List Expr} {te:TE} {t:TA} {pos:Pos}
theorem pa_nil:PA X [] tNil:=fun _ _ _ _ H Q I h=>Calls.spliced_nil ⟨[],H,I,.nil,h⟩
theorem pa_cons (ha:PE X e te) (hr:PA X es t) (hs:starEach (e::es) X.env=(false,eval e X.env)::starEach es X.env:=by rfl):PA X (e::es) (tCons te t):=by
  intro pos pins s σ H Q I h
  rw [hs]
  show wpAny _ _ (spliced ((false,eval e X.env)::backTo pos (starEach es X.env))) _ _ s
  refine Calls.spliced_cons (thn (ha pins s σ H _ I h) fun u s1 ⟨x,H1,I1,r1,q1⟩=>?_)
  exact thn (hr pos pins s1 σ H1 _ I1 q1) fun us s2 ⟨xs,H2,I2,r2,q2⟩=>⟨x::xs,H2,I2,.cons r1 r2,q2⟩
noncomputable def tTup (t:TA):TE:=fun σ H Q=>t σ H fun xs H1=>xs.length≤sizeLine∧∀ p,H1 p=none→Q (.ref p) (upd H1 p (.tup xs))
noncomputable def tLst (t:TA):TE:=fun σ H Q=>t σ H fun xs H1=>xs.length≤sizeLine∧∀ p,H1 p=none→Q (.ref p) (upd H1 p (.lst xs))
theorem pe_tup {x1} (h:PA X es t):PE X (.Tuple es x1 pos) (tTup t):=by
  intro pins s σ H Q I hq
  refine wpAny_Tuple_spliced (thn (h pos pins s σ H _ I hq) fun us s1 ⟨xs,H1,I1,r,z,q⟩=>⟨by rw [← r.length]; exact z,?_⟩)
  have hf:H1 s1.heap.objs.size=none:=I1.hok.fresh (Nat.le_refl _)
  refine ⟨.ref s1.heap.objs.size,upd H1 s1.heap.objs.size (.tup xs),I1.laid (t':=s1.toks) (fun b u e=>Heap.get?_push_of_some _ e) (Nat.le_refl _) ?_,rfl,q _ hf⟩
  exact ⟨z,us,r,⟨_,Heap.get?_push_size _ rfl,rfl,_,rfl⟩⟩
theorem pe_lst (h:PA X es t):PE X (.List es pos) (tLst t):=by
  intro pins s σ H Q I hq
  refine wpAny_List_spliced (thn (h pos pins s σ H _ I hq) fun us s1 ⟨xs,H1,I1,r,z,q⟩=>⟨by rw [← r.length]; exact z,?_⟩)
  have hf:H1 s1.heap.objs.size=none:=I1.hok.fresh (Nat.le_refl _)
  refine ⟨.ref s1.heap.objs.size,upd H1 s1.heap.objs.size (.lst xs),I1.laid (t':=s1.toks) (fun b u e=>Heap.get?_push_of_some _ e) (Nat.le_refl _) ?_,rfl,q _ hf⟩
  exact ⟨z,us,0,r,Heap.get?_push_size _ rfl⟩
end
noncomputable abbrev Sp:=List V→Hp→VK→XK→Prop
noncomputable abbrev CXT:=List Env→Hp→Shared→XK→Value→Shared→Prop
structure Env0 (P:Program) (w:World) (K:PySem.W.Frag) (mg:Str→Option Value) (base:Heap) (A:Around) (outer:List Env) (s:Shared) (H:Hp):Prop where
  frames:A.frames=some outer
  mod:Mod K mg base
  bs:∀ b o,base.get? b=some o→s.heap.get? b=some o∧H b=none
  bsz:base.objs.size≤s.heap.objs.size
  funs:s.heap.FunFrames base outer
  frf:∀ b∈frs outer,H b=none
  hok:HOk P w H s.heap
  bare:AllBare s.gens
noncomputable def CE (outer:List Env) (P:Program) (w:World) (H:Hp) (s:Shared) (Q:VK) (u:Value) (s':Shared):Prop :=
  ∃ v H',s'.os=s.os∧AllBare s'.gens∧Un (frs outer) [] H H' s.heap s'.heap∧HOk P w H' s'.heap∧RelV v u∧Q v H'
noncomputable def CR (CX:CXT) (outer:List Env) (P:Program) (w:World) (H:Hp) (s:Shared) (Q:VK) (E:XK) (r:Result) (s':Shared):Prop :=
  match r with
  | .ok (.ret u)=>CE outer P w H s Q u s'
  | .ok _=>False
  | .error e=>CX outer H s E e s'
structure FnOk (P:Program) (w:World) (K:PySem.W.Frag) (mg:Str→Option Value) (base:Heap) (CX:CXT) (k:Nat) (f:Addr) (fd:FuncData) (ps:List Str) (sp:Sp):Prop where
  len:∀ vs H Q E,sp vs H Q E→vs.length=ps.length
  run:∀ (A:Around) (outer:List Env) (s:Shared) (H:Hp) (args:Args) (us:List Value) (vs:List V) (Q:VK) (E:XK),Room k A→Env0 P w K mg base A outer s H→BindsTo s fd args (ps.zip us)→Vals vs us→sp vs H Q E →
    codeAny (model P w) A (.call (.ref f) args) (CR CX outer P w H s Q E) s
theorem FnOk.imp {P:Program} {w:World} {K:PySem.W.Frag} {mg:Str→Option Value} {base:Heap} {CX:CXT} {k:Nat} {f:Addr} {fd:FuncData} {ps:List Str} {sp sp':Sp} (F:FnOk P w K mg base CX k f fd ps sp)
    (h:∀ vs H Q E,sp' vs H Q E→sp vs H Q E):FnOk P w K mg base CX k f fd ps sp' :=
  ⟨fun vs H Q E q=>F.len vs H Q E (h _ _ _ _ q),fun A outer s H args us vs Q E hr he hb hv hs=>F.run A outer s H args us vs Q E hr he hb hv (h _ _ _ _ hs)⟩
theorem Env0.make {P:Program} {w:World} {K:PySem.W.Frag} {mg:Str→Option Value} {base:Heap} {A:Around} {outer:List Env} {s:Shared} {H:Hp} (e:Env0 P w K mg base A outer s H) (C:Addr) (us:List Value) (kw:List (Str×Value)) :
    Env0 P w K mg base (A.under (.builtin "type.__call__" ⟨.ref C::us,kw⟩)) outer s H:=⟨by first | exact e.frames | (simpa [Around.under,Code.envs,Code.isFrame,pushEnvs] using e.frames),e.mod,e.bs,e.bsz,e.funs,e.frf,e.hok,e.bare⟩
section
variable {X:Cx} {pins:List (Addr×Obj)} {σ:St} {H:Hp} {s s':Shared}
theorem Inv.env0 (I:Inv X pins σ H s):Env0 X.prog X.w X.K X.mg X.base X.A X.stack s H :=
  ⟨I.ok.frames,I.ok.mod,I.bs,Nat.le_trans I.ok.bsz I.sz,I.stack,I.stkFree,I.hok,I.bare⟩
theorem Inv.after {Q:VK} {u:Value} (I:Inv X pins σ H s) (h:CE X.stack X.prog X.w H s Q u s'):EP X pins σ Q u s':=by
  obtain ⟨v,H',os,bare,un,hok,r,q⟩:=h
  obtain ⟨hh,g,d,t,os'⟩:=s'
  obtain rfl:os'=s.os:=os
  exact ⟨v,H',I.call (h':=hh) (g':=g) (d':=d) (t':=t) (ch:=[]) un hok bare (fun b z=>absurd z (by simp)),r,q⟩
end
noncomputable def Binds (K:PySem.W.Frag) (fd:FuncData) (ps:List Str) (ds:List Value):Prop :=
  ∀ (s:Shared) (us:List Value),K.In s.heap→(us++ds).length=ps.length→BindsTo s fd ⟨us,[]⟩ (ps.zip (us++ds))
theorem Binds.all {K:PySem.W.Frag} {fd:FuncData} {ps:List Str} (h:∀ us:List Value,us.length=ps.length→bindArgs fd ⟨us,[]⟩=pure (ps.zip us)):Binds K fd ps []:=fun s us _ hl=>by
  rw [List.append_nil] at hl ⊢
  exact .of_eq (h us hl)
noncomputable def Passes (CX:CXT) (X:Cx) (E:XK):Prop:=∀ (pins:List (Addr×Obj)) (σ:St) (H:Hp) (s:Shared) (e:Value) (s':Shared),Inv X pins σ H s→CX X.stack H s E e s'→X.xe e s'
section
variable {X:Cx} {CX:CXT} {k:Nat} {f C:Addr} {fd:FuncData} {ps:List Str} {sp:Sp} {dvs:List V} {ds:List Value} {E:XK} {x m:Str} {p pos apos:Pos} {e o:Expr} {es:List Expr} {ta:TE} {t:TA}
structure Mk (K:PySem.W.Frag) (C f:Addr):Prop where
  makes:PySem.W.makesIn K C=true
  init:PySem.W.findIn K (.ref C) "__init__"=some (some (.ref f))
  fn:PySem.W.isFn K (.ref f)=true
  kp:PySem.W.keepIn K (.ref C)=true
end
structure FnScope (N P:List Str) (sc:Scope):Prop where
  kind:sc.kind=.function
  co:sc.isCoroutine=false
  gen:sc.isGenerator=false
  nd:N.Nodup
  pre:N.take P.length=P
  par:∀ x∈P,sc.names.lookup x=some .local∨sc.names.lookup x=some .cell
  nofree:∀ y∈sc.names,y.2≠.free
theorem bindL_out {kindOf:Str→Option NameKind} {x:Str}:∀ {binds:List (Str×Value)} {m:Str→Option Value},(∀ v,(x,v)∉binds)→bindL kindOf binds m x=m x
  | [],_,_=>rfl
  | (n,v)::r,m,h=>by
    unfold bindL
    rw [bindL_out fun w hw=>h w (List.mem_cons_of_mem _ hw)]
    split
    · have:x≠n:=by rintro rfl; exact h v List.mem_cons_self
      simp [this]
    · rfl
theorem bindC_out {kindOf:Str→Option NameKind} {x:Str}:∀ {binds:List (Str×Value)} {m:Str→Option Value},(∀ v,(x,v)∉binds)→bindC kindOf binds m x=m x
  | [],_,_=>rfl
  | (n,v)::r,m,h=>by
    unfold bindC
    rw [bindC_out fun w hw=>h w (List.mem_cons_of_mem _ hw)]
    split
    · rfl
    · have:x≠n:=by rintro rfl; exact h v List.mem_cons_self
      simp [this]
theorem bindL_get {kindOf:Str→Option NameKind} {x:Str} {v:Value}:∀ {P:List Str} {vs:List Value} {i:Nat} {m:Str→Option Value},P.Nodup→P[i]?=some x→vs[i]?=some v→kindOf x=some .local →
    bindL kindOf (P.zip vs) m x=some v
  | [],_,_,_,_,h,_,_=>by simp at h
  | _::_,[],_,_,_,_,h,_=>by simp at h
  | p::P,w::vs,0,m,nd,h1,h2,hk=>by
    simp at h1 h2; subst h1; subst h2
    show bindL kindOf ((p,w)::P.zip vs) m p=_
    unfold bindL
    rw [bindL_out fun v hv=>(List.nodup_cons.mp nd).1 (List.of_mem_zip hv).1,if_pos hk]
    simp
  | p::P,w::vs,i + 1,m,nd,h1,h2,hk=>by
    show bindL kindOf ((p,w)::P.zip vs) m x=_
    unfold bindL
    exact bindL_get (i:=i) (List.nodup_cons.mp nd).2 (by simpa using h1) (by simpa using h2) hk
theorem bindC_get {kindOf:Str→Option NameKind} {x:Str} {v:Value}:∀ {P:List Str} {vs:List Value} {i:Nat} {m:Str→Option Value},P.Nodup→P[i]?=some x→vs[i]?=some v→kindOf x≠some .local →
    bindC kindOf (P.zip vs) m x=some v
  | [],_,_,_,_,h,_,_=>by simp at h
  | _::_,[],_,_,_,_,h,_=>by simp at h
  | p::P,w::vs,0,m,nd,h1,h2,hk=>by
    simp at h1 h2; subst h1; subst h2
    show bindC kindOf ((p,w)::P.zip vs) m p=_
    unfold bindC
    rw [bindC_out fun v hv=>(List.nodup_cons.mp nd).1 (List.of_mem_zip hv).1,if_neg hk]
    simp
  | p::P,w::vs,i + 1,m,nd,h1,h2,hk=>by
    show bindC kindOf ((p,w)::P.zip vs) m x=_
    unfold bindC
    exact bindC_get (i:=i) (List.nodup_cons.mp nd).2 (by simpa using h1) (by simpa using h2) hk
noncomputable def start (N:List Str) (vs:List V):St:=vs.map some++List.replicate (N.length - vs.length) none
noncomputable def cxOf (CX:CXT) (P:Program) (w:World) (K:PySem.W.Frag) (mg:Str→Option Value) (base:Heap) (N:List Str) (qual:Str) (scope:Scope) (f:Addr) (cd:Value) (A:Around) (outer:List Env) (s:Shared) (H:Hp) (E:XK):Cx where
  prog:=P
  w:=w
  K:=K
  mg:=mg
  base:=base
  A:=A.deeper (envOfC qual scope s.heap.objs.size f cd)
  N:=N
  s₀:=s
  H₀:=H
  env:=envOfC qual scope s.heap.objs.size f cd
  outer:=outer
  stack:=envOfC qual scope s.heap.objs.size f cd::outer
  ex:=[]
  calm:=true
  fn:=fun _=>true
  pn:=[]
  xe:=fun e s'=>wpAny (model P w) (A.deeper (envOfC qual scope s.heap.objs.size f cd)) (leaving (envOfC qual scope s.heap.objs.size f cd) e) (fun _ s''=>CX outer H s E e s'') (fun e' s''=>CX outer H s E e' s'') s'
theorem cell_has {sc:Scope} {n:Nat} {x:Str} (h:sc.names.lookup x=some .cell):∃ c,(cellsFrom n sc.names []).lookup x=some c:=by
  have q:=PySem.W.cellsFrom_some sc.names n [] (.inl h)
  exact Option.isSome_iff_exists.mp q
theorem inv_start {CX:CXT} {P:Program} {w:World} {K:PySem.W.Frag} {mg:Str→Option Value} {base:Heap} {N ps:List Str} {qual:Str} {scope:Scope} {f:Addr} {cd:Value} {A:Around} {outer:List Env} {s s1:Shared} {H:Hp} {E:XK} {us:List Value} {vs:List V}
    (S:FnScope N ps scope) (hd:A.handled=none) (e0:Env0 P w K mg base A outer s H) (hl:vs.length=ps.length) (r:Vals vs us)
    (x:InCallC s s.heap.objs.size (bindL (envOfC qual scope s.heap.objs.size f cd).kindOf (ps.zip us) fun _=>none) (cellsFrom (s.heap.objs.size + 1) scope.names []) (bindC (envOfC qual scope s.heap.objs.size f cd).kindOf (ps.zip us) fun _=>none) s1) :
    Inv (cxOf CX P w K mg base N qual scope f cd A outer s H E) [] (start N vs) H s1:=by
  have hpl:ps.length≤N.length:=by have:=congrArg List.length S.pre; rw [List.length_take] at this; lia
  obtain ⟨h1,tk,rfl,hk⟩:=x.done
  have noA:∀ b:Addr,b∉(cxOf CX P w K mg base N qual scope f cd A outer s H E).ex:=fun b z=>absurd (show b∈([]:List Addr) from z) (by simp)
  refine ⟨⟨e0.mod,S.kind,rfl,rfl,Nat.le_refl _,fun y z c h1 h2=>?_,fun y hy=>?_,fun y c _ h=>?_,fun _=>hd,Around.frames_deeper e0.frames,.inr ⟨rfl,rfl⟩,fun b z=>absurd z (noA b),e0.bs,e0.bsz,fun b _ _=>noA b,fun b z=>absurd z (noA b),e0.funs,e0.frf⟩,
    rfl,e0.bare,Un.kept hk,⟨_,x.toInCall.ns,fun i y v h1 h2 h3=>?_⟩,fun y c h=>⟨_,x.cell y c h⟩,e0.hok.fresh (Nat.le_refl _),fun y c h=>?_,fun p hp=>absurd (show p∈([]:List (Addr×Obj)) from hp) (by simp),e0.hok.kept hk,?_⟩
  · exact name_of_addr x.apart (PySem.mem_of_lookup h1) (PySem.mem_of_lookup h2)
  · have hy:scope.names.lookup y=some .cell∨scope.names.lookup y=some .free:=hy
    rcases hy with hy | hy
    · exact cell_has hy
    · exact absurd rfl (S.nofree _ (PySem.mem_of_lookup hy))
  · exact Nat.le_of_lt (x.above y c (PySem.mem_of_lookup h))
  · have hi:i < vs.length:=by
      unfold start at h2
      by_cases hi:i < vs.length
      · exact hi
      · rw [List.getElem?_append_right (by simpa using hi)] at h2
        rw [List.getElem?_replicate] at h2
        split at h2 <;> cases h2
    have ha:vs[i]?=some v:=by
      unfold start at h2
      rw [List.getElem?_append_left (by simpa using hi),List.getElem?_map] at h2
      cases e:vs[i]? with
      | none=>rw [e] at h2; cases h2
      | some a=>rw [e] at h2; cases h2; rfl
    obtain ⟨u,hu,rv⟩:=r.get ha
    have hp:ps[i]?=some y:=by
      rw [← S.pre,List.getElem?_take_of_lt (by lia)]; exact h1
    have ndP:ps.Nodup:=by rw [← S.pre]; exact S.nd.sublist (List.take_sublist _ _)
    refine ⟨u,rv,?_⟩
    rcases S.par y (List.mem_of_getElem? hp) with k | k
    · exact .inl ⟨k,bindL_get ndP hp hu k⟩
    · obtain ⟨c,e⟩:=cell_has (n:=s.heap.objs.size + 1) k
      refine .inr ⟨.inl k,c,e,?_⟩
      have q:=x.cell y c e
      rw [bindC_get ndP hp hu (by show scope.names.lookup y≠_; rw [k]; decide)] at q
      exact q
  · exact e0.hok.fresh (Nat.le_of_lt (x.above y c (PySem.mem_of_lookup h)))
  · unfold start
    show _=N.length
    rw [List.length_append,List.length_map,List.length_replicate]
    lia
theorem fn_of {CX:CXT} {P:Program} {w:World} {K:PySem.W.Frag} {mg:Str→Option Value} {base:Heap} {k:Nat} {f:Addr} {name qual:Str} {params:Arguments} {body:List Stmt} {scope:Scope} {dV kV doc pm cdv ct oc:Value} {an od:Option Addr}
    {osl:Array (Option Value)} {N ps:List Str} {sp:Sp} (lk:K.lookup f=some ⟨oc,od,.func (PySem.W.fnOf name qual params body scope dV kV doc pm an cdv ct),osl⟩) (hcd:PySem.W.codeIn K cdv qual=true) (S:FnScope N ps scope)
    (len:∀ vs H Q E,sp vs H Q E→vs.length=ps.length)
    (hbody:∀ (A:Around) (outer:List Env) (s:Shared) (H:Hp) (vs:List V) (Q:VK) (E:XK),Room k (A.deeper (envOfC qual scope s.heap.objs.size f cdv))→sp vs H Q E →
      ∃ t,PSs (cxOf CX P w K mg base N qual scope f cdv A outer s H E) body t∧t {nx:=fun _ H'=>Q .non H',rt:=Q} (start N vs) H) :
    FnOk P w K mg base CX (k + 1) f (PySem.W.fnOf name qual params body scope dV kV doc pm an cdv ct) ps sp:=by
  refine ⟨len,fun A outer s H args us vs Q E hr e0 hb r hsp=>?_⟩
  have hl:=len _ _ _ _ hsp
  have KX:K.In s.heap:=e0.mod.kin.keeps fun b o e=>(e0.bs b o e).1
  have lim:s.heap.NoLimit:=e0.mod.nolimit.keeps fun b o e=>(e0.bs b o e).1
  have hkind:∀ y∈ps.zip us,scope.names.lookup y.1=some .local∨(scope.names.lookup y.1=some .cell∧((cellsFrom (s.heap.objs.size + 1) scope.names []).lookup y.1).isSome=true):=fun ⟨n,v⟩ hy=>by
    rcases S.par n (List.of_mem_zip hy).1 with q | q
    · exact .inl q
    · exact .inr ⟨q,PySem.W.cellsFrom_some _ _ _ (.inl q)⟩
  refine codeAny_call_function hr.depth (KX _ _ lk) rfl S.co S.gen rfl (PySem.W.codeRec_of KX hcd) (hb _ _ _ _ ?_)
  refine wpAny_newFunctionEnv_cells S.kind hkind fun env he s1 x=>?_
  subst he
  refine ⟨lim.keeps x.toInCall.keep,codeAny_func ?_⟩
  obtain ⟨t,ht,hq⟩:=hbody A outer s H vs Q E (hr.deeper _) hsp
  have I:Inv (cxOf CX P w K mg base N qual scope f cdv A outer s H E) [] (start N vs) H s1:=inv_start S hr.hd e0 hl r x
  refine wpAny_mono (ht [] s1 (start N vs) H _ I hq) (fun fl s' hs=>?_) fun e s' hs=>hs
  have fin:∀ {σ':St} {H':Hp} {v:V} {u:Value},Inv (cxOf CX P w K mg base N qual scope f cdv A outer s H E) [] σ' H' s'→RelV v u→Q v H'→CE outer P w H s Q u s' :=
    fun {σ' H' v u} J rv q=>⟨v,H',J.os,J.bare,J.base,J.hok,rv,q⟩
  cases fl with
  | ret u =>
    obtain ⟨v,σ',H',J,rv,q⟩:=hs
    exact fin J rv q
  | next =>
    obtain ⟨σ',H',J,q⟩:=hs
    exact fin (v:=V.non) (u:=Value.none) J rfl q
  | brk =>
    obtain ⟨_,_,_,q⟩:=hs
    exact False.elim q
  | cont =>
    obtain ⟨_,_,_,q⟩:=hs
    exact False.elim q
section
variable {X:Cx} {x:Str} {p pos:Pos} {e:Expr} {es:List Expr} {t:TA} {id T:String} {r:List V→Hp→VK→Prop}
noncomputable def tCB (r:List V→Hp→VK→Prop) (t:TA):TE:=fun σ H Q=>t σ H fun vs H1=>r vs H1 Q
theorem pe_callB (hc:CallR X (.builtin id) r) (hg:Gl X x) (hm:X.mg x=none) (hv:bootBuiltins x=some (.builtin id)) (ha:PA X (e::es) t) (hn:x≠"__name__":=by decide) (hdb:(x == ("__debug__":Str))=false:=by decide)
    (he:starEach (e::es) X.env=(false,eval e X.env)::starEach es X.env:=by rfl) (hpl:(backTo pos (starEach es X.env)).any (·.1)=false:=by rfl):PE X (.Call (.Name x p) (e::es) [] pos) (tCB r t):=by
  intro pins s σ H Q I h
  refine wpAny_Call_Name_kw (ld_blt I hg hm hv ?_ hn hdb)
  exact PyProof.Rows.callWith_builtin1 (thn (ha pos pins s σ H _ I h) fun us s1 ⟨vs,H1,I1,r1,q1⟩=>hc pins s1 σ H1 vs us Q I1 r1 q1) he hpl
theorem pe_callTy (hc:CallR X (.type T) r) (hg:Gl X x) (hm:X.mg x=none) (hv:bootBuiltins x=some (.type T)) (ha:PA X (e::es) t) (hn:x≠"__name__":=by decide) (hdb:(x == ("__debug__":Str))=false:=by decide)
    (he:starEach (e::es) X.env=(false,eval e X.env)::starEach es X.env:=by rfl) (hpl:(backTo pos (starEach es X.env)).any (·.1)=false:=by rfl):PE X (.Call (.Name x p) (e::es) [] pos) (tCB r t):=by
  intro pins s σ H Q I h
  refine wpAny_Call_Name_kw (ld_blt I hg hm hv ?_ hn hdb)
  exact PyProof.Rows.callWith_type1 (thn (ha pos pins s σ H _ I h) fun us s1 ⟨vs,H1,I1,r1,q1⟩=>hc pins s1 σ H1 vs us Q I1 r1 q1) he hpl
end
end L2
namespace HT
open PySem PyProof.Rows
section
variable {prog:Program} {w:World} {A:Around} {E:Value→Shared→Prop} {s:Shared}
theorem cat_tup {t b:Addr} {vs ws:List Value} {Q:Value→Shared→Prop} (ht:IsTup s.heap t vs.toArray) (hb:IsTup s.heap b ws.toArray) (hv:vs≠[])
    (h1:ws=[]→Q (.ref t) s) (h2:ws≠[]→Q (.ref s.heap.objs.size) {s with heap:=s.heap.push {cls:=.type "tuple",data:=.seq (vs++ws).toArray}})
    (hsz:vs.length + ws.length≤sizeLine):wpAny (model prog w) A (binaryOp .Add (.ref t) (.ref b)) Q E s:=by
  obtain ⟨⟨cls,dd,data,sl⟩,ho,hc,n,hd⟩:=id ht
  obtain ⟨⟨cls2,dd2,data2,sl2⟩,ho2,hc2,n2,hd2⟩:=id hb
  simp only at hc hd hc2 hd2
  subst hc hd hc2 hd2
  have e:vs.toArray++ws.toArray=(vs++ws).toArray:=by simp
  by_cases hw:ws=[]
  · exact concat_meets ⟨_,ho,rfl⟩ ⟨_,ho2,rfl⟩ noFill_tuple_add seq_tuple_add PySem.F.slot_tuple_add PySem.F.entry_tuple_add (PySem.F.args_tuple_add_2 _ _)
      (tuple_addW1 t b vs.toArray ws.toArray n n2 dd dd2 sl sl2 (by simpa using hv) (by simp [hw])) ⟨ho,ho2,h1 hw⟩
  · refine concat_meets ⟨_,ho,rfl⟩ ⟨_,ho2,rfl⟩ noFill_tuple_add seq_tuple_add PySem.F.slot_tuple_add PySem.F.entry_tuple_add (PySem.F.args_tuple_add_2 _ _)
      (tuple_addW2 t b vs.toArray ws.toArray n n2 dd dd2 sl sl2 (by simpa using hv) (by simpa using hw) (by rw [List.size_toArray,List.size_toArray]; exact hsz)) ⟨ho,ho2,?_⟩
    rw [e]
    exact h2 hw
noncomputable def sIx (n d:Nat):Option Int→Nat
  | none=>d
  | some v=>if v < 0 then (v + (n:Int)).toNat else min v.toNat n
theorem sIx_le (n d:Nat) (hd:d≤n) (o:Option Int):sIx n d o≤n:=by
  cases o with
  | none=>exact hd
  | some v =>
    show (if v < 0 then (v + (n:Int)).toNat else min v.toNat n)≤n
    by_cases hv:v < 0
    · rw [if_pos hv]; lia
    · rw [if_neg hv]; exact Nat.min_le_right _ _
theorem clip_eq (v:Int) (n d:Nat):(if v < 0 then max (v + (n:Int)) 0 else min v (n:Int))=((sIx n d (some v):Nat):Int):=by
  show (if v < 0 then max (v + (n:Int)) 0 else min v (n:Int))=(((if v < 0 then (v + (n:Int)).toNat else min v.toNat n):Nat):Int)
  by_cases hv:v < 0
  · simp only [if_pos hv]; lia
  · simp only [if_neg hv]; lia
theorem adjust_gen (lo hi:Option Int) (n:Nat):Builtin.Slice.sliceAdjust lo hi 1 (n:Int)=(((sIx n 0 lo:Nat):Int),((sIx n n hi:Nat):Int)):=by
  have h1:¬ ((1:Int) < 0):=by lia
  unfold Builtin.Slice.sliceAdjust
  simp only [h1,if_false]
  refine Prod.ext ?_ ?_
  · cases lo with
    | none=>rfl
    | some v=>exact clip_eq v n 0
  · cases hi with
    | none=>rfl
    | some v=>exact clip_eq v n n
theorem places_gen (i j:Nat):Builtin.Slice.slicePlaces (i:Int) (j:Int) 1=j - i:=by
  unfold Builtin.Slice.slicePlaces
  have h1:(1:Int) > 0:=by lia
  simp only [h1,if_true,Int.ediv_one]
  split <;> lia
theorem slicePart_ {v:Value} {o:Option Int} {Q:Option Int→Shared→Prop} (p:IsPart v o) (h:Q o s):wpAny (model prog w) A (Builtin.Slice.slicePartIndex v) Q E s:=by
  cases p with
  | none=>exact slicePart_none h
  | int i t=>exact slicePart_int h
theorem sliceApplied_gen {sl:Addr} {vl vu:Value} {lo hi:Option Int} {n:Nat} {Q:Int×Int×Nat→Shared→Prop} (hs:s.heap.IsSliceOf sl vl vu .none) (pl:IsPart vl lo) (pu:IsPart vu hi)
    (h:Q (((sIx n 0 lo:Nat):Int),1,sIx n n hi - sIx n 0 lo) s):wpAny (model prog w) A (Builtin.Slice.sliceApplied (.ref sl) (pure (n:Int))) Q E s:=by
  obtain ⟨os,hos,hcs,hds⟩:=id hs
  unfold Builtin.Slice.sliceApplied Builtin.Slice.sliceFields
  refine wpAny_bind (wpAny_bind (wpAny_field hos hds (x:=vl) rfl (wpAny_bind (wpAny_field hos hds (x:=vu) rfl (wpAny_bind (wpAny_field hos hds (x:=.none) rfl (wpAny_pure ?_)))))))
  refine wpAny_bind (slicePart_none ?_)
  show wpAny _ _ (if ((1:Int) == 0)=true then _ else _) _ _ s
  rw [if_neg (by decide)]
  refine wpAny_bind (slicePart_ pl (wpAny_bind (slicePart_ pu (wpAny_bind (wpAny_pure ?_)))))
  show wpAny _ _ (match Builtin.Slice.sliceAdjust lo hi 1 (n:Int) with | (lo,hi)=>pure (lo,(1:Int),Builtin.Slice.slicePlaces lo hi 1)) _ _ s
  rw [adjust_gen lo hi n]
  show wpAny _ _ (pure (((sIx n 0 lo:Nat):Int),(1:Int),Builtin.Slice.slicePlaces ((sIx n 0 lo:Nat):Int) ((sIx n n hi:Nat):Int) 1)) _ _ s
  rw [places_gen]
  exact wpAny_pure h
theorem pick_gen (xs:Array Value) (i k:Nat):((List.range k).filterMap fun (m:Nat)=>xs[((i:Int) + (m:Int) * 1).toNat]?).toArray=((xs.toList.drop i).take k).toArray:=by
  have e:(fun (m:Nat)=>xs[((i:Int) + (m:Int) * 1).toNat]?)=fun m=>xs[i + m]?:=by
    funext m
    have:((i:Int) + (m:Int) * 1).toNat=i + m:=by lia
    rw [this]
  rw [e]
  have:=pick_run xs i k
  rw [List.filterMap_map] at this
  have e2:((fun x=>xs[x]?)∘fun x=>i + x)=fun m=>xs[i + m]?:=rfl
  rw [e2] at this
  rw [this]
theorem getItem_tuple_cut {t sl:Addr} {items:Array Value} {vl vu:Value} {lo hi:Option Int} {Q:Value→Shared→Prop} (ht:IsTup s.heap t items) (hs:s.heap.IsSliceOf sl vl vu .none) (pl:IsPart vl lo) (pu:IsPart vu hi)
    (hw:¬ (sIx items.size 0 lo=0∧sIx items.size items.size hi=items.size))
    (h:Q (.ref s.heap.objs.size) {s with heap:=s.heap.push {cls:=.type "tuple",data:=.seq ((items.toList.drop (sIx items.size 0 lo)).take (sIx items.size items.size hi - sIx items.size 0 lo)).toArray}})
    (hsz:items.size≤sizeLine):wpAny (model prog w) A (getItem (.ref t) (.ref sl)) Q E s:=by
  have htake:sizeOk (.seq ((items.toList.drop (sIx items.size 0 lo)).take (sIx items.size items.size hi - sIx items.size 0 lo)).toArray):=by
    show ((items.toList.drop (sIx items.size 0 lo)).take (sIx items.size items.size hi - sIx items.size 0 lo)).toArray.size≤sizeLine
    rw [List.size_toArray,List.length_take,List.length_drop,Array.length_toList]
    lia
  have hj:sIx items.size items.size hi≤items.size:=sIx_le _ _ (Nat.le_refl _) hi
  obtain ⟨os,hos,hcs,hds⟩:=id hs
  have hTs:s.TypeIs (.ref sl) "slice":=⟨os,hos,hcs⟩
  unfold getItem
  try with_reducible refine wpAny_holding ?_
  first | refine wpAny_bind (wpAny_pure ?_) | skip
  refine wpAny_bind (wpAny_sequenceKey ht.typeIs (by decide) ?_)
  refine wpAny_bind (wpAny_callSpecial?_slot (name:=Str.ofString "__getitem__") ht.typeIs PyProof.Rows.slot_tuple_getitem
    (wpAny_call_entry PyProof.Rows.slot_tuple_getitem ht.typeIs entry_tuple_getitem ?_ (args_tuple_getitem _ _)))
  show wpAny _ _ (Builtin.Tuple.tupleItemsOf (.ref t) >>= _) _ _ s
  refine wpAny_bind (tupleItemsOf_ ht ?_)
  refine wpAny_bind (wpAny_typeOf hTs ?_)
  rw [if_pos (by decide)]
  refine wpAny_bind (sliceApplied_gen hs pl pu ?_)
  have hno:¬ ((((sIx items.size 0 lo:Nat):Int) == 0&&(1:Int) == 1&&(sIx items.size items.size hi - sIx items.size 0 lo) == items.size)=true):=by
    intro q
    rw [Bool.and_eq_true,Bool.and_eq_true] at q
    have q1:((sIx items.size 0 lo:Nat):Int)=0:=eq_of_beq q.1.1
    have q2:sIx items.size items.size hi - sIx items.size 0 lo=items.size:=eq_of_beq q.2
    exact hw ⟨by lia,by lia⟩
  show wpAny _ _ (if (((sIx items.size 0 lo:Nat):Int) == 0&&(1:Int) == 1&&(sIx items.size items.size hi - sIx items.size 0 lo) == items.size)=true then _ else _) _ _ s
  rw [if_neg hno,pick_gen]
  first
    | exact wpAny_bind (m:=Builtin.Tuple.tupleExact _) (wpAny_newObj_type (wpAny_pure ⟨_,rfl,wpAny_pure h⟩) htake)
    | exact wpAny_bind (m:=Builtin.Tuple.tupleExact _) (wpAny_newObj_type (wpAny_bind (wpAny_pure (wpAny_pure ⟨_,rfl,wpAny_pure h⟩))) htake)
    | exact wpAny_bind (wpAny_bind (m:=Builtin.Tuple.tupleExact _) (wpAny_newObj_type (wpAny_pure (wpAny_pure ⟨_,rfl,wpAny_pure h⟩)) htake))
    | exact wpAny_bind (wpAny_bind (m:=Builtin.Tuple.tupleExact _) (wpAny_newObj_type (wpAny_pure ⟨_,rfl,wpAny_pure h⟩) htake))
end
end HT
namespace L2
open PySem PySem.Spec PyProof.Rows
noncomputable abbrev TO:=St→Hp→(Option Int→Hp→Prop)→Prop
noncomputable def PO (X:Cx) (e:Option Expr) (t:TO):Prop :=
  ∀ (pins:List (Addr×Obj)) (s:Shared) (σ:St) (H:Hp) (Q:Option Int→Hp→Prop),Inv X pins σ H s→t σ H Q →
    wpAny (model X.prog X.w) X.A (evalPart e X.env) (fun u s'=>∃ o H',Inv X pins σ H' s'∧IsPart u o∧Q o H') X.xe s
noncomputable def tNoPart:TO:=fun _ H Q=>Q none H
noncomputable def tPart (t:TE):TO:=fun σ H Q=>t σ H fun x H1=>∃ i,x=.int i∧Q (some i) H1
section
variable {X:Cx} {e:Expr} {te:TE} {lo hi:Option Expr} {tl th:TO} {pos p2:Pos}
theorem po_none:PO X none tNoPart:=by
  intro pins s σ H Q I h
  rw [evalPart_none]
  exact wpAny_pure ⟨none,H,I,.none,h⟩
theorem po_some (h:PE X e te):PO X (some e) (tPart te):=by
  intro pins s σ H Q I hw
  rw [evalPart_some]
  refine thn (h pins s σ H _ I hw) fun u s1 ⟨x,H1,I1,r1,q1⟩=>?_
  obtain ⟨i,rfl,q⟩:=q1
  obtain ⟨t,rfl⟩:=r1
  exact ⟨some i,H1,I1,.int i t,q⟩
noncomputable def SlR (X:Cx) (r:V→Option Int→Option Int→Hp→VK→Prop):Prop :=
  ∀ (pins:List (Addr×Obj)) (s:Shared) (σ:St) (H:Hp) (x:V) (v vl vu:Value) (lo hi:Option Int) (sl:Addr) (Q:VK),Inv X pins σ H s→RelV x v→s.heap.IsSliceOf sl vl vu .none→IsPart vl lo→IsPart vu hi→r x lo hi H Q →
    ∃ T id,typeLookup (.type T) "__getitem__"=pure (some (.builtin id))∧s.TypeIs v T∧wpAny (model X.prog X.w) X.A (getItem v (.ref sl)) (EP X pins σ Q) X.xe s
noncomputable def tSl (r:V→Option Int→Option Int→Hp→VK→Prop) (te:TE) (tl th:TO):TE:=fun σ H Q=>te σ H fun x H1=>tl σ H1 fun l H2=>th σ H2 fun u H3=>r x l u H3 Q
theorem pe_slice {r:V→Option Int→Option Int→Hp→VK→Prop} (hr:SlR X r) (he:PE X e te) (hl:PO X lo tl) (hu:PO X hi th):PE X (.Subscript e (.Slice lo hi none p2) pos) (tSl r te tl th):=by
  intro pins s σ H Q I h
  refine Subscript_ (thn (he pins s σ H _ I h) fun v s1 ⟨x,H1,I1,r1,q1⟩=>?_)
  refine wpAny_Slice (thn (hl pins s1 σ H1 _ I1 q1) fun vl s2 ⟨l,H2,I2,pl,q2⟩=>thn (hu pins s2 σ H2 _ I2 q2) fun vu s3 ⟨u,H3,I3,pu,q3⟩=>?_)
  rw [evalPart_none]
  refine wpAny_pure ?_
  have I4:Inv X pins σ H3 {s3 with heap:=s3.heap.push {cls:=.type "slice",data:=.fields #[vl,vu,.none]}}:=I3.kept (t':=s3.toks) fun b ob q=>Heap.get?_push_of_some _ q
  obtain ⟨T,id,hT,ht,hg⟩:=hr pins {s3 with heap:=s3.heap.push {cls:=.type "slice",data:=.fields #[vl,vu,.none]}} σ H3 x v vl vu l u s3.heap.objs.size Q I4 r1 (Heap.IsSliceOf.new ..) pl pu q3
  show wpAny (model X.prog X.w) X.A (subscriptTail e (.Slice lo hi none p2) v (.ref s3.heap.objs.size)) (EP X pins σ Q) X.xe {s3 with heap:=s3.heap.push {cls:=.type "slice",data:=.fields #[vl,vu,.none]}}
  exact tail_any (ops:=[.ref s3.heap.objs.size,v]) ht hT hg (by with_unfolding_all rfl)
noncomputable def cutV (xs:List V) (lo hi:Option Int):List V:=(xs.drop (HT.sIx xs.length 0 lo)).take (HT.sIx xs.length xs.length hi - HT.sIx xs.length 0 lo)
theorem cutV_length (xs:List V) (lo hi:Option Int):(cutV xs lo hi).length≤xs.length:=by
  unfold cutV
  rw [List.length_take,List.length_drop]
  lia
noncomputable def rSlT (K:PySem.W.Frag):V→Option Int→Option Int→Hp→VK→Prop:=fun x lo hi H Q=>∃ a xs,x=.ref a∧SqT K H a xs ∧
  ¬ (HT.sIx xs.length 0 lo=0∧HT.sIx xs.length xs.length hi=xs.length)∧∀ p,H p=none→Q (.ref p) (upd H p (.tup (cutV xs lo hi)))
theorem sl_tup:SlR X (rSlT X.K):=by
  intro pins s σ H x v vl vu lo hi sl Q I rx hs pl pu h
  obtain ⟨a,xs,rfl,hx,hw,q⟩:=h
  cases rx
  obtain ⟨its,r,ht,hz⟩:=I.tuple hx
  have hlen:its.toArray.size=xs.length:=by rw [List.size_toArray]; exact r.length.symm
  refine ⟨"tuple",_,PyProof.Rows.slot_tuple_getitem.lookup,ht.typeIs,?_⟩
  refine HT.getItem_tuple_cut ht hs pl pu (by rw [hlen]; exact hw) ?_ (by rw [hlen]; exact hz)
  rw [hlen]
  refine ⟨.ref s.heap.objs.size,_,I.laid (t':=s.toks) (o:=.tup (cutV xs lo hi)) (fun b ob q=>Heap.get?_push_of_some _ q) (Nat.le_refl _) ?_,rfl,q _ (I.hok.fresh (Nat.le_refl _))⟩
  exact ⟨Nat.le_trans (cutV_length xs lo hi) hz,_,(r.drop (HT.sIx xs.length 0 lo)).take (HT.sIx xs.length xs.length hi - HT.sIx xs.length 0 lo),IsTup.new _ _⟩
noncomputable def rCatT (K:PySem.W.Frag):R2:=fun x y H Q=>∃ a b xs ys,x=.ref a∧y=.ref b∧SqT K H a xs∧SqT K H b ys∧xs≠[]∧xs.length + ys.length≤sizeLine ∧
  (ys=[]→Q (.ref a) H)∧(ys≠[]→∀ p,H p=none→Q (.ref p) (upd H p (.tup (xs++ys))))
theorem Vals.nil_iff {xs:List V} {us:List Value} (r:Vals xs us):us=[]↔xs=[]:=by
  cases r with
  | nil=>simp
  | cons _ _=>simp
theorem op_catT:OpR X (binaryOp .Add) (rCatT X.K):=by
  intro pins s σ H x y v u Q I rx ry h
  obtain ⟨a,b,xs,ys,rfl,rfl,ha,hb,hx,hz,q1,q2⟩:=h
  cases rx
  cases ry
  obtain ⟨its,r1,p1,_⟩:=I.tuple ha
  obtain ⟨its2,r2,p2,_⟩:=I.tuple hb
  refine HT.cat_tup p1 p2 (fun z=>hx (r1.nil_iff.mp z)) (fun z=>⟨.ref a,H,I,rfl,q1 (r2.nil_iff.mp z)⟩) (fun z=>?_) (by rw [← r1.length,← r2.length]; exact hz)
  refine ⟨.ref s.heap.objs.size,_,I.laid (t':=s.toks) (o:=.tup (xs++ys)) (fun b ob q=>Heap.get?_push_of_some _ q) (Nat.le_refl _) ?_,rfl,q2 (fun w=>z (r2.nil_iff.mpr w)) _ (I.hok.fresh (Nat.le_refl _))⟩
  exact ⟨by rw [List.length_append]; exact hz,_,r1.append r2,IsTup.new _ _⟩
end
noncomputable def ixN (n:Nat) (i:Int):Option Nat:=if 0≤i then (if i < n then some i.toNat else none) else if -(n:Int)≤i then some (i + n).toNat else none
noncomputable def atI {α:Type} (xs:List α) (i:Int):Option α:=(ixN xs.length i).bind fun j=>xs[j]?
theorem ixN_seq {n:Nat} {i:Int} {j:Nat} (h:ixN n i=some j):seqIndex? i n=some j∧j < n∧-(n:Int)≤i∧i < n:=by
  unfold ixN at h
  by_cases h0:0≤i
  · rw [if_pos h0] at h
    by_cases h1:i < n
    · rw [if_pos h1] at h
      have e:i.toNat=j:=Option.some.inj h
      exact ⟨by rw [seqIndex_of h0 h1,e],by lia,by lia,h1⟩
    · rw [if_neg h1] at h; cases h
  · rw [if_neg h0] at h
    by_cases h1:-(n:Int)≤i
    · rw [if_pos h1] at h
      have e:(i + n).toNat=j:=Option.some.inj h
      exact ⟨by rw [seqIndex_neg (by lia) h1,e],by lia,h1,by lia⟩
    · rw [if_neg h1] at h; cases h
theorem atI_get {α:Type} {xs:List α} {i:Int} {v:α} (h:atI xs i=some v):∃ j,seqIndex? i xs.length=some j∧xs[j]?=some v∧j < xs.length∧-(xs.length:Int)≤i∧i < xs.length:=by
  unfold atI at h
  cases e:ixN xs.length i with
  | none=>rw [e] at h; cases h
  | some j =>
    rw [e] at h
    obtain ⟨h1,h2,h3,h4⟩:=ixN_seq e
    exact ⟨j,h1,h,h2,h3,h4⟩
noncomputable def PlainIx (b:Expr):Prop:=∀ o i,subscripted b false o i=operate [o,i] (getItem o i)
noncomputable def IxR (X:Cx) (r:R2):Prop :=
  ∀ (value slice:Expr) (pins:List (Addr×Obj)) (s:Shared) (σ:St) (H:Hp) (x y:V) (v u:Value) (Q:VK),Inv X pins σ H s→RelV x v→RelV y u→r x y H Q →
    subscripted slice false v u=operate [v,u] (getItem v u)→wpAny (model X.prog X.w) X.A (subscriptTail value slice v u) (EP X pins σ Q) X.xe s
noncomputable def MtR (X:Cx) (id:String) (r:V→List V→Hp→VK→Prop):Prop :=
  ∀ (pins:List (Addr×Obj)) (s:Shared) (σ:St) (H:Hp) (x:V) (xs:List V) (v:Value) (us:List Value) (Q:VK),Inv X pins σ H s→RelV x v→Vals xs us→r x xs H Q →
    wpAny (model X.prog X.w) X.A (call (.builtin id) (v::us)) (EP X pins σ Q) X.xe s
section
variable {X:Cx} {a b:Expr} {ta tb:TE} {pos:Pos}
theorem pe_ix {r:R2} (hr:IxR X r) (ha:PE X a ta) (hb:PE X b tb) (hs:PlainIx b):PE X (.Subscript a b pos) (tOp r ta tb):=by
  intro pins s σ H Q I h
  exact Subscript_ (binT ha hb I h fun v u s2 x y H2 I2 rx ry q=>hr a b pins s2 σ H2 x y v u Q I2 rx ry q (hs _ _))
noncomputable def rIxL (K:PySem.W.Frag):R2:=fun x y H Q=>∃ p xs i v,x=.ref p∧y=.int i∧SqL K H p xs∧atI xs i=some v∧Q v H
noncomputable def rIxT (K:PySem.W.Frag):R2:=fun x y H Q=>∃ p xs i v,x=.ref p∧y=.int i∧SqT K H p xs∧atI xs i=some v∧Q v H
theorem ix_list:IxR X (rIxL X.K):=by
  intro value slice pins s σ H x y v u Q I rx ry h hs
  obtain ⟨p,xs,i,z,rfl,rfl,hq,he,q⟩:=h
  cases rx
  obtain ⟨t,rfl⟩:=ry
  obtain ⟨its,r,pl,hz⟩:=I.list hq
  obtain ⟨j,h1,h2,h3,h4,h5⟩:=atI_get he
  obtain ⟨w,ew,rw'⟩:=r.get h2
  have hl:=r.length
  have hn:=line63
  have fin:EP X pins σ Q w s:=⟨z,H,I,rw',q⟩
  by_cases h0:0≤i
  · have hj:i.toNat=j:=by
      rw [seqIndex_of h0 h5] at h1
      exact Option.some.inj h1
    exact item_listR pl.isList h0 (by lia) (by rw [hj]; simpa using ew) fin hs
  · have hj:(i + (its.toArray.size:Int)).toNat=j:=by
      rw [seqIndex_neg (by lia) h4] at h1
      rw [List.size_toArray,← hl]
      exact Option.some.inj h1
    exact subscriptTail_builtinR (x:=w) pl.isList.typeIs slot_list_getitem.lookup
      (wpAny_getItem_list_neg (Q:=fun r s'=>r=w∧EP X pins σ Q r s') pl.isList (by lia) (by rw [List.size_toArray] <;> lia) (by lia) (by rw [hj]; simpa using ew) ⟨rfl,fin⟩) hs
theorem ix_tup:IxR X (rIxT X.K):=by
  intro value slice pins s σ H x y v u Q I rx ry h hs
  obtain ⟨p,xs,i,z,rfl,rfl,hq,he,q⟩:=h
  cases rx
  obtain ⟨t,rfl⟩:=ry
  obtain ⟨its,r,pl,hz⟩:=I.tuple hq
  obtain ⟨j,h1,h2,h3,h4,h5⟩:=atI_get he
  obtain ⟨w,ew,rw'⟩:=r.get h2
  have hl:=r.length
  have hn:=line63
  have fin:EP X pins σ Q w s:=⟨z,H,I,rw',q⟩
  exact subscriptTail_builtinR (x:=w) pl.typeIs slot_tuple_getitem.lookup
    (getItem_tuple (j:=j) (Q:=fun r s'=>r=w∧EP X pins σ Q r s') pl (by lia) (by lia) (by rw [List.size_toArray,← hl]; exact h1) (by simpa using ew) ⟨rfl,fin⟩) hs
theorem mapSeq_set (its:List Value) (n j:Nat) (u:Value):Obj.mapSeq (·.setIfInBounds j u) {cls:=.type "list",data:=.seq its.toArray n}={cls:=.type "list",data:=.seq (its.set j u).toArray n}:=by
  simp [Obj.mapSeq]
theorem Inv.lst {pins:List (Addr×Obj)} {σ:St} {H:Hp} {s:Shared} {p:Addr} {xs:List V} (I:Inv X pins σ H s) (h:H p=some (.lst xs)) :
    ∃ (its:List Value) (n:Nat),Vals xs its∧s.heap.get? p=some {cls:=.type "list",data:=.seq its.toArray n}∧xs.length≤sizeLine:=by
  obtain ⟨z,its,n,r,e⟩:=I.hok p _ h
  exact ⟨its,n,r,e,z⟩
theorem Inv.lstUpd {pins:List (Addr×Obj)} {σ:St} {H:Hp} {s:Shared} {p:Addr} {xs ys:List V} {its its':List Value} {n n':Nat} {f:Obj→Obj} (I:Inv X pins σ H s) (h:H p=some (.lst xs))
    (ho:s.heap.get? p=some {cls:=.type "list",data:=.seq its.toArray n}) (hf:f {cls:=.type "list",data:=.seq its.toArray n}={cls:=.type "list",data:=.seq its'.toArray n'}) (r:Vals ys its') (hz:ys.length≤sizeLine) (t:Nat) :
    Inv X pins σ (upd H p (.lst ys)) {s with heap:=s.heap.update p f,toks:=t}:=by
  have e:(s.heap.update p f).get? p=some {cls:=.type "list",data:=.seq its'.toArray n'}:=by
    rw [Heap.get?_update_self f ho (by rw [hf] <;> rfl),hf]
  refine I.write (x:=p) (e:=p) (by rw [h]; trivial) (.inl rfl) (fun b u hb q=>(Heap.get?_update_other _ _ (Ne.symm hb)).trans q) ⟨_,e⟩ ?_
  exact ⟨hz,its',n',r,e⟩
noncomputable def rSetL:V→V→V→Hp→(Hp→Prop)→Prop:=fun o i v H Q=>∃ p xs k j,o=.ref p∧i=.int k∧H p=some (.lst xs)∧ixN xs.length k=some j∧Q (upd H p (.lst (xs.set j v)))
theorem set_list:PSet X rSetL:=by
  intro pins s σ H o i v ov iv u Q I ro ri rv h
  obtain ⟨p,xs,k,j,rfl,rfl,hp,hj,q⟩:=h
  cases ro
  obtain ⟨t,rfl⟩:=ri
  obtain ⟨its,n,r,ho,hz⟩:=I.lst hp
  obtain ⟨h1,h2,h3,h4⟩:=ixN_seq hj
  have hl:=r.length
  have hn:=line63
  have I':Inv X pins σ (upd H p (.lst (xs.set j v))) {s with heap:=s.heap.update p (Obj.mapSeq (·.setIfInBounds j u))} :=
    I.lstUpd hp ho (mapSeq_set its n j u) (r.set rv j) (by rw [List.length_set]; exact hz) s.toks
  by_cases h0:0≤k
  · have hk:k.toNat=j:=by
      rw [seqIndex_of h0 h4] at h1
      exact Option.some.inj h1
    exact PySem.W.ki_setAt ho h0 (by lia) (by rw [List.size_toArray,← hl]; exact h4) (by rw [hk]; exact ⟨_,I',q⟩)
  · have hk:(k + (its.toArray.size:Int)).toNat=j:=by
      rw [seqIndex_neg (by lia) h3] at h1
      rw [List.size_toArray,← hl]
      exact Option.some.inj h1
    exact PySem.W.ki_setBack ho (by lia) (by rw [List.size_toArray,← hl]; exact h3) (by lia) (by rw [hk]; exact ⟨_,I',q⟩)
theorem slice_bounds (lo hi:Option Int) (n:Nat):(sliceBounds lo hi none n).1=((HT.sIx n 0 lo:Nat):Int)∧(sliceBounds lo hi none n).2.1=((HT.sIx n n hi:Nat):Int)∧(sliceBounds lo hi none n).2.2=1:=by
  refine ⟨?_,?_,rfl⟩
  · cases lo with
    | none=>simp [sliceBounds,HT.sIx]
    | some i =>
      simp only [sliceBounds,HT.sIx,Option.getD_none,show (1:Int) > 0 by decide,if_true]
      by_cases h:i < 0
      · simp only [h,if_true] <;> lia
      · simp only [h,if_false] <;> lia
  · cases hi with
    | none=>simp [sliceBounds,HT.sIx]
    | some i =>
      simp only [sliceBounds,HT.sIx,Option.getD_none,show (1:Int) > 0 by decide,if_true]
      by_cases h:i < 0
      · simp only [h,if_true] <;> lia
      · simp only [h,if_false] <;> lia
theorem slicePick_cut (its:List Value) (lo hi:Option Int):slicePick its.toArray lo hi none=((its.drop (HT.sIx its.length 0 lo)).take (HT.sIx its.length its.length hi - HT.sIx its.length 0 lo)).toArray:=by
  obtain ⟨h1,h2,h3⟩:=slice_bounds lo hi its.toArray.size
  unfold slicePick
  rw [h1,h2,h3]
  simp only [sliceRange_one,pick_run,List.size_toArray] <;> rfl
noncomputable def rSlL (K:PySem.W.Frag):V→Option Int→Option Int→Hp→VK→Prop:=fun x lo hi H Q=>∃ a xs,x=.ref a∧SqL K H a xs∧∀ p,H p=none→Q (.ref p) (upd H p (.lst (cutV xs lo hi)))
theorem sl_list:SlR X (rSlL X.K):=by
  intro pins s σ H x v vl vu lo hi sl Q I rx hs pl pu h
  obtain ⟨a,xs,rfl,hx,q⟩:=h
  cases rx
  obtain ⟨its,r,ht,hz⟩:=I.list hx
  have hlen:=r.length
  refine ⟨"list",_,slot_list_getitem.lookup,ht.isList.typeIs,?_⟩
  refine wpAny_getItem_list_slice ht.isList hs pl pu .none (by simp) ?_ (by rw [List.size_toArray] <;> lia)
  rw [slicePick_cut,← hlen]
  refine ⟨.ref s.heap.objs.size,_,I.laid (t':=s.toks) (o:=.lst (cutV xs lo hi)) (fun b ob q=>Heap.get?_push_of_some _ q) (Nat.le_refl _) ?_,rfl,q _ (I.hok.fresh (Nat.le_refl _))⟩
  exact ⟨Nat.le_trans (cutV_length xs lo hi) hz,_,0,(r.drop (HT.sIx xs.length 0 lo)).take (HT.sIx xs.length xs.length hi - HT.sIx xs.length 0 lo),Heap.get?_push_size _ rfl⟩
theorem call_len_seq:CallR X (.builtin "len") (fun xs H Q=>∃ p ys,xs=[.ref p]∧(SqL X.K H p ys∨SqT X.K H p ys)∧Q (.int ys.length) H):=by
  intro pins s σ H xs us Q I r h
  obtain ⟨p,ys,rfl,hq,q⟩:=h
  obtain ⟨u,rfl,rx⟩:=vals1 r
  cases rx
  have hn:=line63
  rcases hq with hq | hq
  · obtain ⟨its,r',pl,hz⟩:=I.list hq
    have hlen:=r'.length
    exact Calls.call_len_list pl.isList (by simp only [List.size_toArray] <;> lia) ⟨.int ys.length,H,I.tok _,⟨s.toks + 1,by rw [List.size_toArray,hlen]⟩,q⟩
  · obtain ⟨its,r',pl,hz⟩:=I.tuple hq
    have hlen:=r'.length
    exact len_tuple pl (by simp only [List.size_toArray] <;> lia) ⟨.int ys.length,H,I.tok _,⟨s.toks + 1,by rw [List.size_toArray,hlen]⟩,q⟩
theorem call_len_str:CallR X (.builtin "len") (fun xs H Q=>∃ z,xs=[.str z]∧z.length≤sizeLine∧Q (.int z.length) H):=by
  intro pins s σ H xs us Q I r h
  obtain ⟨z,rfl,hz,q⟩:=h
  obtain ⟨u,rfl,t,rfl⟩:=vals1 r
  have hn:=line63
  exact len_str (by lia) ⟨.int z.length,H,I.tok _,⟨_,rfl⟩,q⟩
theorem call_tuple_of:CallR X (.type "tuple") (fun xs H Q=>∃ p ys,xs=[.ref p]∧((SqL X.K H p ys∧∀ l,H l=none→Q (.ref l) (upd H l (.tup ys)))∨(SqT X.K H p ys∧Q (.ref p) H))):=by
  intro pins s σ H xs us Q I r h
  obtain (⟨p,ys,rfl,h⟩):=h
  obtain (⟨u,rfl,rx⟩):=vals1 r
  cases rx
  rcases h with ⟨hq,q⟩ | ⟨hq,q⟩
  · obtain (⟨its,r',pl,hz⟩):=I.list hq
    have hlen:=r'.length
    refine call_tuple_list pl.isList (fun h' kp=>?_) (by simp only [List.size_toArray] <;> lia)
    have I1:Inv X pins σ H {s with heap:=h'}:=I.kept (t':=s.toks) kp
    have I2:Inv X pins σ (upd H h'.objs.size (.tup ys)) {s with heap:=h'.push {cls:=.type "tuple",data:=.seq its.toArray}} :=
      I1.laid (t':=s.toks) (fun b o e=>Heap.get?_push_of_some _ e) (Nat.le_refl _) (show ObjOk X.prog X.w _ _ _ (.tup ys) from ⟨hz,its,r',IsTup.new _ _⟩)
    exact ⟨.ref h'.objs.size,_,I2,rfl,q _ (I1.hok.fresh (Nat.le_refl _))⟩
  · obtain (⟨its,r',pl,hz⟩):=I.tuple hq
    exact call_tuple_same pl ⟨.ref p,H,I,rfl,q⟩
noncomputable def tyV (K:PySem.W.Frag) (T:String) (x:V) (H:Hp):Prop:=match x with
  | .str _=>T="str"
  | .int _=>T="int"
  | .ref p=>(T="list"∧∃ xs,SqL K H p xs)∨(T="tuple"∧∃ o,K.lookup p=some o∧o.cls=.type "tuple"∧o.dict=none) ∨
      (T="dict"∧((∃ kvs,H p=some (.dK kvs))∨∃ kvs,H p=some (.dT kvs)))∨(T="set"∧∃ S n,H p=some (.set S n))
  | _=>False
theorem tyV_is {pins:List (Addr×Obj)} {σ:St} {H:Hp} {s:Shared} {T:String} {x:V} {v:Value} (I:Inv X pins σ H s) (r:RelV x v) (ty:tyV X.K T x H) :
    s.TypeIs v T∧∀ a,v=.ref a→∃ ob,s.heap.get? a=some ob∧ob.dict=none:=by
  cases x with
  | str z =>
    obtain ⟨t,rfl⟩:=r
    cases (show T="str" from ty)
    exact ⟨typeIs_str s z t,fun _ e=>nomatch e⟩
  | int i =>
    obtain ⟨t,rfl⟩:=r
    cases (show T="int" from ty)
    exact ⟨typeIs_int s i t,fun _ e=>nomatch e⟩
  | ref p =>
    cases r
    rcases ty with ⟨rfl,xs,hq⟩ | ⟨rfl,o,hk,hc,hd⟩ | ⟨rfl,hk⟩ | ⟨rfl,S,n,hk⟩
    · obtain ⟨its,_,pl,_⟩:=I.list hq
      refine ⟨pl.isList.typeIs,fun a e=>?_⟩
      cases e
      obtain ⟨o,n,e,c,hd,_⟩:=pl
      exact ⟨o,e,hd⟩
    · refine ⟨⟨o,I.kIn p o hk,hc⟩,fun a e=>?_⟩
      cases e
      exact ⟨o,I.kIn _ o hk,hd⟩
    · have z:∃ o,s.heap.get? p=some o∧o.ExactDict:=by
        rcases hk with ⟨kvs,hk⟩ | ⟨kvs,hk⟩
        · obtain ⟨_,_,_,_,o,_,_,e,ex,_⟩:=I.hok p _ hk
          exact ⟨o,e,ex⟩
        · obtain ⟨_,_,_,_,o,_,_,e,ex,_⟩:=I.hok p _ hk
          exact ⟨o,e,ex⟩
      obtain ⟨o,e,ex⟩:=z
      refine ⟨⟨o,e,ex.1⟩,fun a e2=>?_⟩
      cases e2
      exact ⟨o,e,ex.2.1⟩
    · obtain ⟨o,_,_,_,e,ex,_⟩:=I.hok p _ hk
      refine ⟨⟨o,e,ex.1⟩,fun a e2=>?_⟩
      cases e2
      exact ⟨o,e,ex.2.1⟩
  | _=>exact False.elim ty
noncomputable def tBM (K:PySem.W.Frag) (T:String) (r:V→List V→Hp→VK→Prop) (to:TE) (t:TA):TE:=fun σ H Q=>to σ H fun x H1=>tyV K T x H1∧t σ H1 fun xs H2=>r x xs H2 Q
variable {o e:Expr} {es:List Expr} {to:TE} {t:TA} {name:Str} {apos cpos:Pos} {T id:String} {r:V→List V→Hp→VK→Prop}
theorem pe_bm (pa:PlainAttrs T) (slot:Slot T name id) (hty:typeOf (.builtin id)=pure (.type "method_descriptor")) (hm:MtR X id r) (ho:PE X o to) (ha:PA X (e::es) t)
    (hbase:attributeBase o name X.env (eval o X.env)=eval o X.env:=by rfl)
    (hfew:((backTo cpos (starEach (e::es) X.env)).all (fun x=>!x.1)&&(backToKw cpos (keywordEach [] X.env)).all (fun x=>x.1.isSome)
      && decide ((e::es).length + ([]:List Keyword).length + (if ([]:List Keyword).isEmpty then 0 else 1) < 30))=true:=by rfl)
    (hline:(apos.endLine == cpos.line)=true:=by rfl) (hs:starEach (e::es) X.env=(false,eval e X.env)::starEach es X.env:=by rfl) (hplain:(backTo cpos (starEach es X.env)).any (·.1)=false:=by rfl) :
    PE X (.Call (.Attribute o name apos) (e::es) [] cpos) (tBM X.K T r to t):=by
  intro pins s σ H Q I h
  refine wpAny_Call_method_late hbase hfew hline rfl (thn (ho pins s σ H _ I h) fun v s1 ⟨x,H1,I1,r1,ty,q1⟩=>?_)
  obtain ⟨h1,h2⟩:=tyV_is I1 r1 ty
  refine ⟨T,id,pa,slot,hty,h1,h2,?_⟩
  have hA:=ha cpos pins s1 σ H1 _ I1 q1
  rw [hs] at hA ⊢
  refine Calls.callWith_builtin (by show (false || (backTo cpos (starEach es X.env)).any (·.1))=false; rw [hplain] <;> rfl) (Calls.evalArgs_plain ?_)
  exact thn hA fun us s2 ⟨vs,H2,I2,r2,q2⟩=>hm pins s2 σ H2 x vs v us Q I2 r1 r2 q2
end
noncomputable def MtM (X:Cx) (id:String) (r:V→List V→Hp→VK→Prop):Prop :=
  ∀ (pins:List (Addr×Obj)) (s:Shared) (σ:St) (H:Hp) (x:V) (xs:List V) (v:Value) (us:List Value) (Q:VK),Inv X pins σ H s→RelV x v→Vals xs us→r x xs H Q →
    wpAny (model X.prog X.w) X.A (call (.builtin id) (v::us)) (EP X pins σ Q) X.xe s
theorem Vals.one:∀ {x:V} {us:List Value},Vals [x] us→∃ u,us=[u]∧RelV x u
  | _,_,.cons r .nil=>⟨_,rfl,r⟩
theorem Vals.zero:∀ {us:List Value},Vals [] us→us=[]
  | _,.nil=>rfl
theorem Vals.dropLast {xs:List V} {us:List Value} (h:Vals xs us):Vals xs.dropLast us.dropLast:=by
  induction h with
  | nil=>exact .nil
  | cons r t ih =>
    cases t with
    | nil=>exact .nil
    | cons q t'=>exact .cons r ih
theorem Vals.eraseIdx:∀ {xs:List V} {us:List Value} (i:Nat),Vals xs us→Vals (xs.eraseIdx i) (us.eraseIdx i)
  | _,_,_,.nil=>.nil
  | _,_,0,.cons _ t=>t
  | _,_,i + 1,.cons r t=>.cons r (Vals.eraseIdx i t)
theorem Vals.rep {xs:List V} {us:List Value} (h:Vals xs us):∀ k:Nat,Vals (List.replicate k xs).flatten (List.replicate k us).flatten
  | 0=>.nil
  | k + 1=>by
    rw [List.replicate_succ,List.replicate_succ,List.flatten_cons,List.flatten_cons]
    exact Vals.append h (Vals.rep h k)
theorem erase_last {α:Type} (l:List α):l.eraseIdx (l.length - 1)=l.dropLast:=by
  induction l with
  | nil=>rfl
  | cons a r ih =>
    cases r with
    | nil=>rfl
    | cons b r =>
      have e:(a::b::r).length - 1=((b::r).length - 1) + 1:=by
        have h1:(a::b::r).length=r.length + 2:=rfl
        have h2:(b::r).length=r.length + 1:=rfl
        lia
      rw [e,List.eraseIdx_cons_succ,ih]
      all_goals rfl
theorem len_erase {α:Type}:∀ (l:List α) (i:Nat),(l.eraseIdx i).length≤l.length
  | [],_=>Nat.le_refl _
  | _::_,0=>Nat.le_succ _
  | _::r,i + 1=>Nat.succ_le_succ (len_erase r i)
theorem foldl_rep (its:List Value):∀ (k:Nat) (acc:List Value),
    List.foldl (fun x1 x2=>x1++x2) acc.toArray (List.replicate k its.toArray)=(acc++(List.replicate k its).flatten).toArray
  | 0,acc=>by simp
  | k + 1,acc=>by
    have e:acc.toArray++its.toArray=(acc++its).toArray:=by simp
    have e2:(acc++its)++(List.replicate k its).flatten=acc++(List.replicate (k + 1) its).flatten:=by
      rw [List.replicate_succ,List.flatten_cons,List.append_assoc]
    rw [← e2,← foldl_rep its k (acc++its),← e,List.replicate_succ,List.foldl_cons]
section
variable {X:Cx} {pins:List (Addr×Obj)} {σ:St} {H:Hp} {s:Shared} {l b:Addr} {xs ys zs:List V}
theorem Inv.lset {its its':List Value} {n:Nat} {f:Array Value→Array Value} {t':Nat} (I:Inv X pins σ H s) (hH:H l=some (.lst xs))
    (e:s.heap.get? l=some {cls:=.type "list",data:=.seq its.toArray n}) (hf:f its.toArray=its'.toArray) (hv:Vals ys its') (hz:ys.length≤sizeLine) :
    Inv X pins σ (upd H l (.lst ys)) {s with heap:=s.heap.update l (Obj.mapSeq f),toks:=t'}:=by
  have q:=PySem.IsL.update e f
  rw [hf] at q
  refine I.write (x:=l) (e:=l) (by rw [hH]; exact trivial) (.inl rfl) (fun b' u hb hu=>(Heap.get?_update_other s.heap (Obj.mapSeq f) (Ne.symm hb)).trans hu) ⟨_,q⟩ ?_
  exact ⟨hz,its',_,hv,q⟩
theorem Inv.lnew {its:List Value} {t':Nat} (I:Inv X pins σ H s) (hv:Vals ys its) (hz:ys.length≤sizeLine) :
    Inv X pins σ (upd H s.heap.objs.size (.lst ys)) {s with heap:=s.heap.push {cls:=.type "list",data:=.seq its.toArray},toks:=t'} :=
  I.laid (fun _ _ q=>Heap.get?_push_of_some _ q) (Nat.le_refl _) ⟨hz,its,0,hv,Heap.get?_push_size _ rfl⟩
theorem Inv.fresh (I:Inv X pins σ H s):H s.heap.objs.size=none:=I.hok.fresh (Nat.le_refl _)
theorem Inv.lstM (I:Inv X pins σ H s) (hH:H l=some (.lst xs)):xs.length≤sizeLine∧∃ (its:List Value) (n:Nat),Vals xs its∧xs.length=its.length∧s.heap.get? l=some {cls:=.type "list",data:=.seq its.toArray n}:=by
  obtain ⟨z,its,n,r,e⟩:=I.hok l _ hH
  exact ⟨z,its,n,r,r.length,e⟩
theorem notLongL {n:Nat} (h:n≤sizeLine):Builtin.List.listTooLong n=false:=by
  unfold Builtin.List.listTooLong
  exact decide_eq_false (by lia)
end
section
variable {X:Cx}
noncomputable def rAppend:V→List V→Hp→VK→Prop:=fun x vs H Q=>∃ l xs y,x=.ref l∧vs=[y]∧H l=some (.lst xs)∧xs.length < sizeLine∧Q .non (upd H l (.lst (xs++[y])))
theorem mt_append:MtM X "list.append" rAppend:=by
  intro pins s σ H x vs v us Q I rx rv h
  obtain ⟨l,xs,y,rfl,rfl,hH,hz,q⟩:=h
  cases rx
  obtain ⟨u,rfl,ru⟩:=rv.one
  obtain ⟨z,its,n,r,hl,e⟩:=I.lstM hH
  refine call_meets F.slot_list_append ⟨_,e,rfl⟩ F.entry_list_append (F.args_list_append_2 _ _) (PySem.list_append l its.toArray n u (by rw [List.size_toArray]; lia)) ⟨e,?_⟩
  refine ⟨.non,_,I.lset (its':=its++[u]) hH e (by simp) (r.append (.cons ru .nil)) ?_,rfl,q⟩
  rw [List.length_append,List.length_singleton]
  lia
noncomputable def rExtend:V→List V→Hp→VK→Prop:=fun x vs H Q=>∃ l b xs zs,x=.ref l∧vs=[.ref b]∧H l=some (.lst xs)∧H b=some (.lst zs)∧xs.length + zs.length≤sizeLine∧Q .non (upd H l (.lst (xs++zs)))
noncomputable def rPop:V→List V→Hp→VK→Prop:=fun x vs H Q=>∃ l xs y,x=.ref l∧vs=[]∧H l=some (.lst xs)∧xs[xs.length - 1]?=some y∧Q y (upd H l (.lst xs.dropLast))
theorem mt_pop:MtM X "list.pop" rPop:=by
  intro pins s σ H x vs v us Q I rx rv h
  obtain ⟨l,xs,y,rfl,rfl,hH,hy,q⟩:=h
  cases rx
  have hus:=rv.zero
  subst hus
  obtain ⟨z,its,n,r,hl,e⟩:=I.lstM hH
  obtain ⟨u,hu,ru⟩:=r.get hy
  have hy':its.toArray[its.toArray.size - 1]?=some u:=by
    show its.toArray[its.length - 1]?=some u
    rw [← Array.getElem?_toList,← hl]
    exact hu
  refine call_meets F.slot_list_pop ⟨_,e,rfl⟩ F.entry_list_pop (F.args_list_pop_1 _) (MeetsSeq.list_pop_last l its.toArray n u hy' (by rw [List.size_toArray]; lia)) ⟨e,?_⟩
  refine ⟨y,_,I.lset (its':=its.dropLast) hH e ?_ r.dropLast ?_,ru,q⟩
  · show its.toArray.eraseIdxIfInBounds (its.toArray.size - 1)=its.dropLast.toArray
    rw [List.size_toArray,List.eraseIdxIfInBounds_toArray,erase_last]
  · rw [List.length_dropLast]
    lia
noncomputable def rPopAt:V→List V→Hp→VK→Prop:=fun x vs H Q=>∃ l xs i k y,x=.ref l∧vs=[.int i]∧H l=some (.lst xs)∧-(2 ^ 63)≤i∧i < 2 ^ 63∧seqIndex? i xs.length=some k∧xs[k]?=some y∧Q y (upd H l (.lst (xs.eraseIdx k)))
theorem mt_popAt:MtM X "list.pop" rPopAt:=by
  intro pins s σ H x vs v us Q I rx rv h
  obtain ⟨l,xs,i,k,y,rfl,rfl,hH,h1,h2,hk,hy,q⟩:=h
  cases rx
  obtain ⟨u,rfl,ru⟩:=rv.one
  obtain ⟨t,rfl⟩:=ru
  obtain ⟨z,its,n,r,hl,e⟩:=I.lstM hH
  obtain ⟨w,hw,rw'⟩:=r.get hy
  refine call_meets F.slot_list_pop ⟨_,e,rfl⟩ F.entry_list_pop (F.args_list_pop_2 _ _)
    (MeetsSeq.list_pop_at l its.toArray n i t k w (fitsIndex_both h1 h2) (by rw [List.size_toArray,← hl]; exact hk) (by rw [← Array.getElem?_toList]; exact hw) (by rw [List.size_toArray]; lia)) ⟨e,?_⟩
  refine ⟨y,_,I.lset (its':=its.eraseIdx k) hH e ?_ (r.eraseIdx k) ?_,rw',q⟩
  · show its.toArray.eraseIdxIfInBounds k=(its.eraseIdx k).toArray
    rw [List.eraseIdxIfInBounds_toArray]
  · have:=len_erase xs k
    lia
theorem len_rep {α:Type} (xs:List α) (k:Nat):(List.replicate k xs).flatten.length=k * xs.length:=by
  induction k with
  | zero=>simp
  | succ k ih=>rw [List.replicate_succ,List.flatten_cons,List.length_append,ih,Nat.succ_mul,Nat.add_comm]
end
end L2
namespace Att
open PySem PySem.W PySem.Calls PyProof.Rows
theorem ints_of_wellAll {P:Params} {h:Heap}:∀ (ns:List Int) (vs:List Value),WellAll P h vs (ns.map WData.int)→IntsAre vs ns:=by
  intro ns
  induction ns with
  | nil =>
    intro vs w
    rw [List.map_nil] at w
    cases w
    exact .nil
  | cons n ns ih =>
    intro vs w
    rw [List.map_cons] at w
    cases w with
    | cons a b =>
      cases a
      exact .cons _ _ (ih _ b)
theorem script_of {l:OpenLaw} {n:Nat} (hn:l.most=some n) {P:Params} {h:Heap} {args:List WData} {vals:List Value}
    (hpre:l.row.toRowW.claim.pre args=true) (hwl:WellAll P h vals args) :
    ∃ a vs ns,vals=[Value.ref a]∧args=[WData.list (ns.map WData.int)]∧h.get? a=some {cls:=.type "list",data:=.seq vs.toArray}∧IntsAre vs ns∧ns.length≤n:=by
  have hsh:WShape.hasAll [] args [.list .int]=true:=(pre_splitW hpre).1
  have hc:l.pre.holds [] {args:=args}=true:=(pre_splitW hpre).2
  obtain ⟨d,r,rfl,h1,h2⟩:=hasAllW_cons hsh
  obtain rfl:=hasAllW_nil h2
  obtain ⟨xs,rfl,h3⟩:=hasW_list h1
  obtain ⟨ns,rfl⟩:=items_int h3
  have hlen:ns.length≤n:=by
    unfold OpenLaw.pre at hc
    have h4:(WTm.not (.lt (.lit (.int (n:Int))) (.len (.arg 0)))).holds [] {args:=[.list (ns.map .int)]}=true:=by
      have h4:=(holds_andW hc).1
      rw [hn] at h4
      exact h4
    have h5:=condW_of h4 (w_not (w_lt w_lit (w_len_list (w_arg rfl))))
    rw [List.length_map] at h5
    refine Nat.le_of_not_lt fun q=>?_
    have q':(n:Int) < ((ns.length:Nat):Int):=by lia
    first
      | (rw [decide_eq_true q'] at h5; exact absurd h5 (by decide))
      | (simp at h5; lia)
  cases hwl with
  | cons w1 w2 =>
    cases w2
    cases w1 with
    | list ho hall=>exact ⟨_,_,ns,rfl,rfl,ho,ints_of_wellAll ns _ hall,hlen⟩
theorem post_true (l:OpenLaw) (args:List WData):l.row.toRowW.claim.post args (.bool true) args=true :=
  postW_of (r:=l.row.toRowW) (X:=(true == true))
    (show WShape.has [] (.bool true) .bool=true by first | rfl | decide | simp [WShape.has,WShape.arms,WShape.armsAll])
    (show (WTm.eq .res (.lit (.bool true))).value [] {args:=args,res:=some (.bool true),after:=args}=some (.bool (true == true)) from w_eq_bool (w_res rfl) w_lit) rfl
theorem attach_call {l:OpenLaw} {n:Nat} {q:Program} {loose:List Str} {XP:(Str→Option Value)→Heap→Prop} {YP:World→Heap→Prop} {d:DefRec}
    (hn:l.most=some n) (hdf:d.params.defaults=[])
    (call:∀ (w:World) (s₀ s₁:Shared) (mg mb:Str→Option Value) (fa:Addr) (o:Obj) (pm cd doc:Value) (a:Addr) (vs:List Value) (ns:List Int),
      Ground q loose [] XP w s₀ mg mb s₁.heap→YP w s₁.heap →
      s₁.heap.get? fa=some o→o.data=.func (docDef d.name d.params d.body d.scope pm cd doc)→s₁.heap.CodeRec cd d.name→mg d.name=some (.ref fa) →
      s₁.heap.get? a=some {cls:=.type "list",data:=.seq vs.toArray}→IntsAre vs ns→ns.length≤n→s₁.gens=#[] →
      codeAny (model l.prog w) callerA (.call (.ref fa) ⟨[.ref a],[]⟩) (fun r s'=>r=.ok (.ret (.bool true))∧OldK s₁.heap s'.heap∧s'.os=s₁.os∧AllBare s'.gens) s₁) :
    WalkO q loose XP YP l.row.toRowW d [] (fun f vs=>PySem.call f vs):=by
  intro w s₀ s₁ mg mb G Y fa o pm cd doc dV kV ho hd hcd hD hmg hg args vals as hpre hlay hrd hwl hlo
  obtain rfl:dV=.none:=Dflts.none hD hdf
  obtain rfl:kV=.none:=Dflts.noKw hD
  obtain ⟨a,vs,ns,rfl,rfl,hobj,hints,hlen⟩:=script_of hn hpre hwl
  refine enter_call (codeAny_mono (call w s₀ s₁ mg mb fa o pm cd doc a vs ns G Y ho (fd_plain hd) hcd hmg hobj hints hlen hg) fun r s' hq=>?_)
  obtain ⟨rfl,h2,h3,h4⟩:=hq
  exact ⟨.inl ⟨.bool true,.bool true,[],rfl,fun _=>rfl,.bool true,post_true l _,fun _=>⟨List.Pairwise.nil,fun _ hm=>(nomatch hm)⟩⟩,h2,h3,h4⟩
end Att
namespace L2
open PySem PySem.Spec PyProof.Rows
theorem vals_ints:∀ {vs:List Value} {ns:List Int},IntsAre vs ns→Vals (ns.map V.int) vs
  | _,_,.nil=>.nil
  | _,_,.cons n t h=>.cons ⟨t,rfl⟩ (vals_ints h)
noncomputable def Only (H:Hp):Prop:=∀ b,H b=none∨∃ o xs,H b=some (.frz o (.lst xs))
theorem law_call {P:Program} {w:World} {K:PySem.W.Frag} {mg mb:Str→Option Value} {CX:CXT} {k:Nat} {fa a:Addr} {fd:FuncData} {x:Str} {sp:Sp} {s₁:Shared} {vs:List Value} {ns:List Int}
    (KX:K.In s₁.heap) (hns:s₁.heap.Ns mainGlobals mg) (hb:s₁.heap.Ns builtinsNs mb) (hbb:∀ x:Str,x≠"__name__"→mb x=bootBuiltins x) (hlim:s₁.heap.NoLimit) (hg:s₁.gens=#[])
    (ha:s₁.heap.get? a=some {cls:=.type "list",data:=.seq vs.toArray}) (hi:IntsAre vs ns) (hl:ns.length≤sizeLine) (hr:Room k callerA)
    (F:∀ base:Heap,K.In base→base.Ns mainGlobals mg→FnOk P w K mg base CX k fa fd [x] sp) (hbind:∀ (s:Shared) (u:Value),BindsTo s fd ⟨[u],[]⟩ [(x,u)])
    (hsp:∀ H:Hp,Only H→SqL K H a (ns.map V.int)→sp [.ref a] H (fun v _=>v=.bl true) fun _ _ _=>False)
    (hCX:∀ H e s',CX [] H s₁ (fun _ _ _=>False) e s'→False) :
    codeAny (model P w) callerA (.call (.ref fa) ⟨[.ref a],[]⟩) (fun r s'=>r=.ok (.ret (.bool true))∧OldK s₁.heap s'.heap∧s'.os=s₁.os∧AllBare s'.gens) s₁:=by
  have rv:=vals_ints hi
  have lenV:=hi.length
  -- from an abstract heap in which nothing but the script may be tracked
  have core:∀ H:Hp,Only H→SqL K H a (ns.map V.int)→HOk P w H s₁.heap→(∀ b,H b≠none→b=a)→(H a≠none→K.lookup a=none) →
      codeAny (model P w) callerA (.call (.ref fa) ⟨[.ref a],[]⟩) (fun r s'=>r=.ok (.ret (.bool true))∧OldK s₁.heap s'.heap∧s'.os=s₁.os∧AllBare s'.gens) s₁:=by
    intro H hO hS hok hA hK
    have base_of:∀ {b:Addr} {o:Obj},s₁.heap.get? b=some o→H b=none→(hidT s₁.heap H).get? b=some o:=fun e n=>hidT_get e n
    have noA:∀ {b:Addr} {o:Obj} {es:Array DictEntry} {ep:Nat},s₁.heap.get? b=some o→o.data=.dict es ep→H b=none:=fun {b o es ep} e d=>by
      cases q:H b with
      | none=>rfl
      | some u =>
        have e':b=a:=hA b (by rw [q]; simp)
        subst e'
        rw [ha] at e; cases e
        have d':Data.seq vs.toArray _=Data.dict es ep:=d
        cases d'
    have nsK:∀ {b:Addr} {m:Str→Option Value},s₁.heap.Ns b m→(hidT s₁.heap H).Ns b m:=fun {b m} ⟨o,es,ep,e,d,r⟩=>⟨o,es,ep,base_of e (noA e d),d,r⟩
    have hKb:K.In (hidT s₁.heap H):=fun b o e=>base_of (KX b o e) (by
      cases q:H b with
      | none=>rfl
      | some u =>
        have e':b=a:=hA b (by rw [q]; simp)
        subst e'
        rw [hK (by rw [q]; simp)] at e; cases e)
    have hM:Mod K mg (hidT s₁.heap H):=⟨hKb,nsK hns,⟨mb,nsK hb,hbb⟩,let ⟨mc,h1,h2⟩:=hlim; ⟨mc,nsK h1,h2⟩⟩
    have e0:Env0 P w K mg (hidT s₁.heap H) callerA [] s₁ H:=⟨rfl,hM,fun b o e=>of_hidT e,Nat.le_of_eq (hidT_size _ _),trivial,fun b hb=>absurd (show b∈([]:List Addr) from hb) (by simp),hok,.of_eq hg⟩
    refine codeAny_mono ((F _ hKb (nsK hns)).run callerA [] s₁ H ⟨[.ref a],[]⟩ [.ref a] [.ref a] _ _ hr e0 (hbind s₁ (.ref a)) (.cons rfl .nil) (hsp H hO hS)) fun r s' h=>?_
    cases r with
    | error e=>exact (hCX H e s' h).elim
    | ok fl =>
      cases fl with
      | next=>exact False.elim h
      | brk=>exact False.elim h
      | cont=>exact False.elim h
      | ret u =>
        obtain ⟨v,H',os,bare,un,hok',r',q⟩:=h
        have q':v=.bl true:=q
        subst q'
        obtain rfl:u=Value.bool true:=r'
        refine ⟨rfl,OldK.of_keep fun b o e=>?_,os,bare⟩
        cases q:H b with
        | none=>exact un.keep b o e q (by intro z; exact absurd (show b∈([]:List Addr) from z) (by simp)) (by simp)
        | some u =>
          rcases hO b with z | ⟨ob,xs,z⟩
          · rw [q] at z; cases z
          · have z2:=un.frzs b ob _ z
            obtain ⟨e1,_⟩:=hok b _ z
            obtain ⟨e2,_⟩:=hok' b _ z2
            rw [e] at e1; cases e1
            exact e2
  cases hk:K.lookup a with
  | some o =>
    -- the script is one of the module's own objects
    have e:=KX a o hk
    rw [ha] at e
    cases e
    refine core (fun _=>none) (fun _=>.inl rfl) (.inr ⟨_,vs.toArray,_,hk,rfl,rfl,rfl,by rw [List.size_toArray,lenV]; exact hl,by simpa using rv⟩) (fun b u z=>by have z':(none:Option HO)=some u:=z; cases z') (fun b z=>absurd rfl z) fun z=>absurd rfl z
  | none =>
    refine core (fun b=>if b=a then some (.frz {cls:=.type "list",data:=.seq vs.toArray} (.lst (ns.map V.int))) else none) (fun b=>?_) (.inl (.inr ⟨{cls:=.type "list",data:=.seq vs.toArray},if_pos rfl⟩)) (fun b u z=>?_) (fun b z=>?_) fun _=>hk
    · by_cases hb:b=a
      · exact .inr ⟨_,_,if_pos hb⟩
      · exact .inl (if_neg hb)
    · by_cases hb:b=a
      · have z':=(if_pos hb).symm.trans z
        cases z'
        subst hb
        exact ⟨ha,by rw [List.length_map]; exact hl,vs,_,rv,ha⟩
      · have z':=(if_neg hb).symm.trans z
        cases z'
    · by_cases hb:b=a
      · exact hb
      · exact absurd (if_neg hb) z
theorem walk_of {l:PySem.W.OpenLaw} {n k:Nat} {q:Program} {loose:List Str} {XP:(Str→Option Value)→Heap→Prop} {YP:World→Heap→Prop} {d:DefRec} {K:Params→PySem.W.Frag} {CX:World→CXT} {sp:World→Sp} {x:Str}
    (hn:l.most=some n) (hn2:n≤sizeLine) (hdf:d.params.defaults=[]) (hr:Room k callerA)
    (hY:∀ (w:World) (h:Heap),YP w h→(K w.params).In h)
    (F:∀ (w:World) (mg:Str→Option Value) (fa:Addr) (h:Heap),(K w.params).In h→h.Ns mainGlobals mg→mg d.name=some (.ref fa) →
      ∃ fd:FuncData,(∀ (s:Shared) (u:Value),BindsTo s fd ⟨[u],[]⟩ [(x,u)]) ∧
        ∀ base:Heap,(K w.params).In base→base.Ns mainGlobals mg→FnOk l.prog w (K w.params) mg base (CX w) k fa fd [x] (sp w))
    (hsp:∀ (w:World) (H:Hp) (a:Addr) (ns:List Int),ns.length≤n→Only H→SqL (K w.params) H a (ns.map V.int)→sp w [.ref a] H (fun v _=>v=.bl true) fun _ _ _=>False)
    (hCX:∀ (w:World) (H:Hp) (s:Shared) (e:Value) (s':Shared),CX w [] H s (fun _ _ _=>False) e s'→False) :
    PySem.W.WalkO q loose XP YP l.row.toRowW d [] (fun f vs=>PySem.call f vs):=by
  refine Att.attach_call hn hdf fun w s₀ s₁ mg mb fa o pm cd doc a vs ns G Y ho hd hcd hmg hobj hints hlen hg=>?_
  have KX:=hY w _ Y
  obtain ⟨fd,hb,hF⟩:=F w mg fa _ KX G.T.g hmg
  exact law_call KX G.T.g G.T.b G.T.builtins G.T.nolimit hg hobj hints (Nat.le_trans hlen hn2) hr hF hb (fun H hO hS=>hsp w H a ns hlen hO hS) fun H e s'=>hCX w H s₁ e s'
noncomputable def inClass (s:Stmt) (j:Nat):Stmt:=match s with
  | .ClassDef _ _ _ body _ _ _ _ _ _ _=>body.getD j (.Pass ⟨0,0,0,0⟩)
  | _=>.Pass ⟨0,0,0,0⟩
noncomputable def defArgs (s:Stmt):Arguments:=match s with
  | .FunctionDef _ a _ _ _ _ _ _ _ _=>a
  | _=>{posonlyargs:=[],args:=[],vararg:=none,kwonlyargs:=[],kw_defaults:=[],kwarg:=none,defaults:=[]}
noncomputable def defBody (s:Stmt):List Stmt:=match s with
  | .FunctionDef _ _ b _ _ _ _ _ _ _=>b
  | _=>[]
noncomputable def defScope (s:Stmt):Scope:=match s with
  | .FunctionDef _ _ _ _ _ _ sc _ _ _=>sc
  | _=>{kind:=.function,names:=[],isGenerator:=false,isCoroutine:=false}
noncomputable abbrev CX0:CXT:=fun _ _ _ _ _ _=>False
noncomputable abbrev E0:XK:=fun _ _ _=>False
structure Fun (K:PySem.W.Frag) (x qual:Str) (st:Stmt) (f:Addr) (fd:FuncData):Prop where
  ex:∃ (oc:Value) (od:Option Addr) (kV doc pm:Value) (an:Option Addr) (cdv ct:Value) (osl:Array (Option Value)),
    fd=PySem.W.fnOf x qual (defArgs st) (defBody st) (defScope st) .none kV doc pm an cdv ct∧K.lookup f=some ⟨oc,od,.func fd,osl⟩∧PySem.W.codeIn K cdv qual=true
  kp:PySem.W.keepIn K (.ref f)=true
section
variable {P:Program} {w:World} {K:PySem.W.Frag} {mg:Str→Option Value} {base:Heap}
theorem Fun.binds {x qual:Str} {st:Stmt} {f:Addr} {fd:FuncData} {ps:List Str} (F:Fun K x qual st f fd)
    (h:∀ (kV doc pm:Value) (an:Option Addr) (cdv ct:Value) (us:List Value),us.length=ps.length→bindArgs (PySem.W.fnOf x qual (defArgs st) (defBody st) (defScope st) .none kV doc pm an cdv ct) ⟨us,[]⟩=pure (ps.zip us)):Binds K fd ps []:=by
  obtain ⟨oc,od,kV,doc,pm,an,cdv,ct,osl,rfl,lk,hcd⟩:=F.ex
  exact .all (h kV doc pm an cdv ct)
theorem fun_mk {x qual:Str} {st:Stmt} {f:Addr} {oc:Value} {od an:Option Addr} {osl:Array (Option Value)} {kV doc pm cdv ct:Value} (l:K.lookup f=some ⟨oc,od,.func (PySem.W.fnOf x qual (defArgs st) (defBody st) (defScope st) .none kV doc pm an cdv ct),osl⟩)
    (c:PySem.W.codeIn K cdv qual=true) (k:PySem.W.keepIn K (.ref f)=true):Fun K x qual st f (PySem.W.fnOf x qual (defArgs st) (defBody st) (defScope st) .none kV doc pm an cdv ct):=⟨⟨oc,od,kV,doc,pm,an,cdv,ct,osl,rfl,l,c⟩,k⟩
end
noncomputable def Same (H H':Hp):Prop:=∀ b o,H b=some o→H' b=some o
theorem kV_is {P:Program} {w:World} {k:Key} {u:Value} (r:RelV (kV k) u):(mixKind P w).is k u=true:=by
  cases k with
  | inl i=>obtain ⟨t,e⟩:=(show ∃ t,u=Value.int i t from r); subst e; exact mixKind_int P w i t
  | inr x=>obtain ⟨t,e⟩:=(show ∃ t,u=Value.str x t from r); subst e; exact mixKind_str P w x t
theorem items_are {P:Program} {w:World}:∀ {ks:List Key} {us:List Value},Vals (ks.map kV) us→ItemsAre (mixKind P w) ks us
  | [],_,r=>by rw [List.map_nil] at r; cases r; exact .nil
  | k::ks,_,r=>by
    rw [List.map_cons] at r
    cases r with
    | cons h t=>exact .cons (kV_is h) (items_are t)
section
variable {P:Program} {w:World} {H:Hp} {h:Heap} {a:Addr}
theorem key_of {ks:List Key} (ok:HOk P w H h) (e:H a=some (.tup (ks.map kV))):(tupleKind (mixKind P w)).is h ks a:=by
  obtain ⟨_,its,r,o,h1,h2,n,h3⟩:=(show ObjOk P w H h a (.tup (ks.map kV)) from ok a _ e)
  exact ⟨o,its.toArray,n,h1,h2,h3,by simpa using items_are r⟩
end
end L2
end
section
namespace M3
open PySem
open Sem (wp)
noncomputable def freeCells (env:Env):List (Str×NameKind)→List (Str×Addr)→List (Str×Addr)
  | [],cs=>cs
  | (n,k)::r,cs=>freeCells env r (if (k == .free)=true then (n,(env.cells.lookup n).getD 0)::cs else cs)
theorem closure_go (env:Env):∀ (names:List (Str×NameKind)) (cs:List (Str×Addr)),(∀ y∈names,y.2=.free→∃ c,env.cells.lookup y.1=some c) →
    (forIn names cs fun (y:Str×NameKind) (r:List (Str×Addr))=>if (y.2 == .free)=true then do let c←cellOf env y.1; pure (ForInStep.yield ((y.1,c)::r)) else pure (ForInStep.yield r):Sem (List (Str×Addr)))=pure (freeCells env names cs)
  | [],cs,_=>rfl
  | (n,k)::r,cs,h=>by
    have ih:=fun cs'=>closure_go env r cs' fun y hy=>h y (List.mem_cons_of_mem _ hy)
    rw [List.forIn_cons]
    by_cases hk:(k == .free)=true
    · obtain ⟨c,e⟩:=h (n,k) List.mem_cons_self (by simpa using hk)
      have e':cellOf env n=pure c:=by unfold cellOf; rw [e]
      show (if (k == .free)=true then _ else _) >>= _=_
      rw [if_pos hk]
      show (cellOf env n >>= fun c=>_) >>= _=_
      rw [e']
      show (forIn r ((n,c)::cs) _:Sem _)=_
      rw [ih]
      show _=pure (freeCells env r (if (k == .free)=true then (n,(env.cells.lookup n).getD 0)::cs else cs))
      rw [if_pos hk,e]
      rfl
    · show (if (k == .free)=true then _ else _) >>= _=_
      rw [if_neg hk]
      show (forIn r cs _:Sem _)=_
      rw [ih]
      show _=pure (freeCells env r (if (k == .free)=true then (n,(env.cells.lookup n).getD 0)::cs else cs))
      rw [if_neg hk]
theorem closure_eq {env:Env} {scope:Scope} (h:∀ y∈scope.names,y.2=.free→∃ c,env.cells.lookup y.1=some c):closureFor scope env=pure (freeCells env scope.names []):=by
  have q:=closure_go env scope.names [] h
  unfold closureFor
  have e:∀ (t:Sem (List (Str×Addr))),t=pure (freeCells env scope.names [])→(t >>= fun r=>pure r)=pure (freeCells env scope.names []):=fun t z=>by rw [z]; rfl
  refine e _ (Eq.trans ?_ q)
  congr 1
end M3
end
section
namespace M3
open PySem
open Sem (wp)
section
variable {prog:Program} {w:World} {A:Around} {R:Result→Shared→Prop} {s:Shared}
noncomputable abbrev ifsOf (ifs:List Expr) (env:Env):Sem Bool:=forIn ifs true fun c r=>if r=true then do let ok←isTrue c env (eval c env); pure (ForInStep.yield ok) else pure (ForInStep.yield r)
theorem comp_loop {elt target iter:Expr} {ifs:List Expr} {scope:Scope} {pos:Pos} {it acc:Value} {env:Env} (I:Nat→Shared→Prop)
    (turn:∀ n s,I n s→wpAny (model prog w) A (pyNext it) (fun r s1=>match r with
      | none=>R (.ok .next) s1
      | some v=>wpAny (model prog w) A (letOwnedTupleGo target it v) (fun _ s2=>wpAny (model prog w) A (assign target env v) (fun _ s3 =>
          wpAny (model prog w) A (ifsOf ifs env) (fun ok s4=>if ok=true then wpAny (model prog w) A (eval elt env) (fun x s5 =>
              wpAny (model prog w) A (call (.builtin "list.append") [acc,x]) (fun _ s6=>∃ m,m < n∧I m s6) (fun _ _=>False) s5) (fun _ _=>False) s4
            else ∃ m,m < n∧I m s4) (fun _ _=>False) s3) (fun _ _=>False) s2) (fun _ _=>False) s1) (fun _ _=>False) s)
    (n:Nat) (h:I n s):codeAny (model prog w) A (.compLoop (.ListComp elt [⟨target,iter,ifs,0⟩] scope pos) 0 it acc env) R s:=by
  refine codeAny_loop rfl I (fun n s hI=>?_) n h
  show wpAny _ A ((compTurn (.ListComp elt [⟨target,iter,ifs,0⟩] scope pos) 0 it acc env).onRaise (fun x=>do noteFrame x env; theTreesLotGoes x)) _ _ s
  refine wpAny_noted ?_
  rw [compTurn_list]
  refine wpAny_bind (wpAny_standAt (wpAny_bind (wpAny_mono (turn n s hI) (fun r s1 h1=>?_) fun _ _ z=>z.elim)))
  cases r with
  | none=>exact wpAny_pure h1
  | some v =>
    refine wpAny_bind (wpAny_mono h1 (fun _ s2 h2=>?_) fun _ _ z=>z.elim)
    refine wpAny_bind (wpAny_mono h2 (fun _ s3 h3=>wpAny_bind (wpAny_mono h3 (fun ok s4 h4=>?_) fun _ _ z=>z.elim)) fun _ _ z=>z.elim)
    cases ok with
    | false=>exact wpAny_pure ⟨rfl,h4⟩
    | true =>
      refine wpAny_bind (wpAny_bind (wpAny_mono h4 (fun x s5 h5=>?_) fun _ _ z=>z.elim))
      exact wpAny_bind (wpAny_mono h5 (fun _ s6 h6=>wpAny_pure (wpAny_pure ⟨rfl,h6⟩)) fun _ _ z=>z.elim)
end
noncomputable abbrev excO (C t:Addr) (tb:Value):Obj:={cls:=.ref C,data:=.fields #[.ref t,tb,.none,.none,.bool false,.none]}
inductive Tb (h:Heap) (x:Addr):Value→Prop where
  | no:Tb h x .none
  | at {T:Addr} {o:Obj} {ts:Array Value} (ne:T≠x) (ho:h.get? T=some o) (hd:o.data=.fields ts) (h3:ts[3]?=some .none):Tb h x (.ref T)
structure Noted (fs:List Addr) (x:Addr) (tb:Value) (h h':Heap):Prop where
  keep:∀ b o,b∉fs→b≠x→Value.ref b≠tb→h.get? b=some o→h'.get? b=some o
  slot:∀ b o,b∈fs→b≠x→Value.ref b≠tb→h.get? b=some o→∃ sl,h'.get? b=some {o with slots:=sl}
section
variable {M:Model} {A:Around} {E:Value→Shared→Prop} {s:Shared}
theorem entry_made {base:Heap} {env:Env} {outer:List Env} {L x C t:Addr} {head tb0:Value} {had:Bool} {Q:Unit→Shared→Prop}
    (hfr:A.frames=some (env::outer)) (hl:s.heap.FunFrames base (env::outer)) (hf:env.frame=some L) (he:s.heap.get? x=some (excO C t tb0))
    (h:∀ h' T,(∀ b o,b∉(env::outer).filterMap (·.frame)→b≠x→s.heap.get? b=some o→h'.get? b=some o) →
      (∀ b o,b∈(env::outer).filterMap (·.frame)→s.heap.get? b=some o→∃ sl,h'.get? b=some {o with slots:=sl}) →
      h'.get? x=some (excO C t (.ref T))→Tb h' x (.ref T)→s.heap.objs.size≤T→Q () {s with heap:=h'}) :
    wpAny M A (do let a←frameOf env; let pl←entryPlaceOf L had; let b←EntryCells.newEntry head a .none (rawInt L) .none pl; setField (.ref x) 1 b) (fun _ s'=>wpAny M A (setFlight (.ref x) none) Q E s') E s:=by
  have hx:x∉(env::outer).filterMap (·.frame):=fun hm=>by
    obtain ⟨_,o,ho,nf⟩:=hl.mem hm
    rw [he] at ho
    cases ho
    exact nf _ rfl
  refine wpAny_bind (wpAny_frameOf_fun hfr hl hf fun h1 k1=>?_)
  refine wpAny_bind (wpAny_entryPlaceOf fun pl hpl=>?_)
  unfold EntryCells.newEntry newFields
  refine wpAny_bind (wpAny_newObj_type ?_ (hpl.sizeOk5 _ _ _ _ _))
  generalize hcells:([head,Value.ref L,Value.none,rawInt L,Value.none]++(if pl.isEmpty=true then List.replicate 6 Value.none else pl))=cells
  have len:3 < cells.length:=by rw [← hcells]; simp only [List.length_append,List.length_cons,List.length_nil]; lia
  have e1:h1.get? x=some (excO C t tb0):=(k1.2.1 x hx).trans he
  have e2:=Heap.get?_push_of_some {cls:=.type "traceback",dict:=none,data:=.fields cells.toArray} e1
  have neT:x≠h1.objs.size:=Nat.ne_of_lt (Heap.lt_size e1)
  refine wpAny_setField e2 rfl (by simp) ?_
  have e3:=Heap.get?_update_self (Obj.mapFields (·.setIfInBounds 1 (Value.ref h1.objs.size))) e2 (Obj.isFreed_of_fields (Obj.data_mapFields rfl _))
  have e4:((h1.push {cls:=.type "traceback",dict:=none,data:=.fields cells.toArray}).update x (Obj.mapFields (·.setIfInBounds 1 (Value.ref h1.objs.size)))).get? h1.objs.size=some {cls:=.type "traceback",dict:=none,data:=.fields cells.toArray} :=
    (Heap.get?_update_other _ _ neT).trans (Heap.get?_push_size h1 rfl)
  unfold setFlight
  refine wpAny_bind (wpAny_field e3 (vs:=#[.ref t,.ref h1.objs.size,.none,.none,.bool false,.none]) (x:=.ref h1.objs.size) rfl rfl ?_)
  rw [if_pos (show (Value.ref h1.objs.size != Value.none)=true from by simp)]
  refine wpAny_setField e4 rfl (by simpa using len) ?_
  have e5:=Heap.get?_update_self (Obj.mapFields (·.setIfInBounds 3 ((none:Option Addr).elim Value.none fun f=>rawInt f))) e4 (Obj.isFreed_of_fields (Obj.data_mapFields rfl _))
  have sz:h1.objs.size=s.heap.objs.size:=k1.1
  have other:∀ b o,b≠x→h1.get? b=some o→(((h1.push {cls:=.type "traceback",dict:=none,data:=.fields cells.toArray}).update x (Obj.mapFields (·.setIfInBounds 1 (Value.ref h1.objs.size)))).update h1.objs.size (Obj.mapFields (·.setIfInBounds 3 ((none:Option Addr).elim Value.none fun f=>rawInt f)))).get? b=some o:=fun b o nb eb=>by
    rw [Heap.get?_update_other _ _ (Nat.ne_of_gt (Heap.lt_size eb)),Heap.get?_update_other _ _ (Ne.symm nb)]
    exact Heap.get?_push_of_some _ eb
  refine h _ h1.objs.size (fun b o hb nb eb=>other b o nb ((k1.2.1 b hb).trans eb)) (fun b o hb eb=>?_) ?_ (.at (Ne.symm neT) e5 (Obj.data_mapFields rfl _) ?_) (Nat.le_of_eq sz.symm)
  · obtain ⟨sl,q⟩:=k1.2.2 b o eb
    exact ⟨sl,other b _ (fun z=>hx (z ▸ hb)) q⟩
  · rw [Heap.get?_update_other _ _ (Ne.symm neT)]
    exact e3
  · simp [Array.getElem?_setIfInBounds,len]
theorem exc_noted {base:Heap} {env:Env} {outer:List Env} {L x C t:Addr} {tb:Value} {Q:Unit→Shared→Prop}
    (hfr:A.frames=some (env::outer)) (hl:s.heap.FunFrames base (env::outer)) (hf:env.frame=some L) (he:s.heap.get? x=some (excO C t tb)) (ht:Tb s.heap x tb)
    (h:∀ h' T,Noted ((env::outer).filterMap (·.frame)) x tb s.heap h'→h'.get? x=some (excO C t (.ref T))→Tb h' x (.ref T)→s.heap.objs.size≤T→Q () {s with heap:=h'}) :
    wpAny M A (leaving env (.ref x)) Q E s:=by
  unfold leaving noteFrame
  simp only [hf]
  refine wpAny_bind (wpAny_bind (wpAny_field he rfl (x:=tb) rfl ?_))
  cases ht with
  | no =>
    rw [if_neg (by decide)]
    exact entry_made hfr hl hf he fun h' T k1 k2 e1 e2 e3=>h h' T ⟨fun b o hb nb _ eb=>k1 b o hb nb eb,fun b o hb _ _ eb=>k2 b o hb eb⟩ e1 e2 e3
  | @«at» T o ts ne ho hd h3 =>
    rw [if_pos (show (Value.ref T != Value.none)=true from by simp)]
    refine wpAny_bind (wpAny_field ho hd h3 ?_)
    rw [if_neg (show ¬ ((Value.none == rawInt L)=true) from by simp [rawInt])]
    refine wpAny_bind (wpAny_setField ho hd (Array.getElem?_eq_some_iff.mp h3).1 ?_)
    have other:∀ b,b≠T→(s.heap.update T (Obj.mapFields (·.setIfInBounds 3 Value.none))).get? b=s.heap.get? b:=fun b nb=>Heap.get?_update_other _ _ (Ne.symm nb)
    have nrec:∀ b o,s.heap.get? b=some o→(∀ vs,o.data≠.fields vs)→b≠T:=fun b o eb nf z=>by
      rw [z,ho] at eb
      cases eb
      exact nf ts hd
    refine entry_made (s:={s with heap:=s.heap.update T (Obj.mapFields (·.setIfInBounds 3 Value.none))}) hfr (hl.of_keeps fun b o eb nf=>⟨o,(other b (nrec b o eb nf)).trans eb,rfl⟩) hf ((other x (Ne.symm ne)).trans he)
      fun h' T' k1 k2 e1 e2 e3=>h h' T' ⟨fun b o hb nb nt eb=>k1 b o hb nb ((other b fun z=>nt (z ▸ rfl)).trans eb),fun b o hb _ nt eb=>k2 b o hb ((other b fun z=>nt (z ▸ rfl)).trans eb)⟩ e1 e2 ?_
    have e3':(s.heap.update T (Obj.mapFields (·.setIfInBounds 3 Value.none))).objs.size≤T':=e3
    rw [Heap.size_after_update] at e3'
    exact e3'
end
end M3
end
section
namespace M3
open PySem
open Sem (wp)
end M3
end
section
namespace M3
open PySem
open Sem (wp)
section
variable {prog:Program} {w:World} {A:Around} {E:Value→Shared→Prop} {s:Shared}
theorem nextOf_tuple_item {r l:Addr} {i:Nat} {items:Array Value} {x:Value} {Q:Value→Shared→Prop} (ri:s.heap.IsTupleIter r l i) (hl:s.heap.IsTuple l items) (hx:items[i]?=some x)
    (hQ:∀ h',h'.IsTupleIter r l (i + 1)→Heap.SameBut r s.heap h'→Q x {s with heap:=h'}):wpAny (model prog w) A (Builtin.SmallTypes.nextOf (.ref r)) Q E s:=by
  obtain ⟨o,ho,hc,hd⟩:=id ri
  obtain ⟨ol,hol,_,nl,hdl⟩:=hl
  unfold Builtin.SmallTypes.nextOf
  apply wpAny_bind
  refine wpAny_callSpecial?_slot (name:=Str.ofString "__next__") ri.typeIs F.slot_tuple_iterator_next (wpAny_call_entry F.slot_tuple_iterator_next ri.typeIs F.entry_tuple_iterator_next ?_ (F.args_tuple_iterator_next_1 _))
  show wpAny _ _ (field (.ref r) 0 >>= _) _ _ s; apply wpAny_bind; apply wpAny_field ho hd (x:=.ref l) rfl
  show wpAny _ _ (if (Value.ref l == Value.none)=true then _ else _) _ _ s; rw [if_neg (fun z:(Value.ref l == Value.none)=true=>absurd z Bool.false_ne_true)]
  show wpAny _ _ (field (.ref r) 1 >>= _) _ _ s; apply wpAny_bind; apply wpAny_field ho hd (x:=.int i 0) rfl
  show wpAny _ _ (seqItems? (.ref l) >>= _) _ _ s; apply wpAny_bind; apply wpAny_seqItems hol hdl
  simp only [Int.toNat_natCast,hx]; apply wpAny_bind
  refine wpAny_setField ho hd (by simp) (wpAny_pure ⟨x,rfl,wpAny_pure (hQ _ ⟨_,Heap.get?_update_self _ ho (Obj.isFreed_of_fields (Obj.data_mapFields hd _)),(Obj.cls_mapFields ..).trans hc,?_⟩ (Heap.SameBut.update ..))⟩)
  rw [Obj.data_mapFields hd]; simp [rawInt]
theorem nextOf_tuple_end {r l:Addr} {i:Nat} {items:Array Value} {Q:Value→Shared→Prop} (hh:A.handled=none) (ri:s.heap.IsTupleIter r l i) (hl:s.heap.IsTuple l items) (hx:items[i]?=none)
    (hE:∀ h' e,Heap.ExtBut r s.heap h'→(∃ o,h'.get? e=some o∧o.cls=.type "StopIteration")→E (.ref e) {s with heap:=h'}):wpAny (model prog w) A (Builtin.SmallTypes.nextOf (.ref r)) Q E s:=by
  obtain ⟨o,ho,hc,hd⟩:=id ri
  obtain ⟨ol,hol,_,nl,hdl⟩:=hl
  unfold Builtin.SmallTypes.nextOf
  apply wpAny_bind
  refine wpAny_callSpecial?_slot (name:=Str.ofString "__next__") ri.typeIs F.slot_tuple_iterator_next (wpAny_call_entry F.slot_tuple_iterator_next ri.typeIs F.entry_tuple_iterator_next ?_ (F.args_tuple_iterator_next_1 _))
  show wpAny _ _ (field (.ref r) 0 >>= _) _ _ s; apply wpAny_bind; apply wpAny_field ho hd (x:=.ref l) rfl
  show wpAny _ _ (if (Value.ref l == Value.none)=true then _ else _) _ _ s; rw [if_neg (fun z:(Value.ref l == Value.none)=true=>absurd z Bool.false_ne_true)]
  show wpAny _ _ (field (.ref r) 1 >>= _) _ _ s; apply wpAny_bind; apply wpAny_field ho hd (x:=.int i 0) rfl
  show wpAny _ _ (seqItems? (.ref l) >>= _) _ _ s; apply wpAny_bind; apply wpAny_seqItems hol hdl
  simp only [Int.toNat_natCast,hx]; apply wpAny_bind; apply wpAny_rule; apply wpAny_bind
  refine wpAny_setField ho hd (by simp) ?_
  show wpAny _ _ (newExc (.type "StopIteration") [] >>= _) _ _ _
  apply wpAny_bind; simp only [newExc,newTuple]
  apply wpAny_bind; refine wpAny_newObj_type ?_ (by size_fits)
  refine wpAny_bind (m:=firstArgMember _ _) (wpAny_of_eq (a:=Value.none) (by first | rfl | (unfold firstArgMember; rfl)) (wpAny_newObj_type ?_ (by size_fits)))
  refine wpAny_raiseNew_none (by first | exact hh | (show A.in1.handled=_; exact hh)) (hE _ _ ((((Heap.SameBut.update ..).extBut).push _).push _) ⟨_,Heap.get?_push_size _ rfl,rfl⟩)
theorem drawsTuple (hh:A.handled=none) (r l:Addr) (hne:l≠r) (items:Array Value) :
    Draws prog w A r [r,l] items.size (fun i v=>items[i]?=some v) (fun i h=>h.IsTupleIter r l i∧h.IsTuple l items) where
  live:=fun _ _ st=>let ⟨o,ho,_⟩:=st.1; ⟨o,ho⟩
  frame:=fun _ _ _ st hk=>let ⟨⟨o,e,c⟩,⟨u,f,d⟩⟩:=st; ⟨⟨o,hk r (by simp) o e,c⟩,⟨u,hk l (by simp) u f,d⟩⟩
  item:=fun i s Q E hi st hQ=>nextOf_tuple_item st.1 st.2 (x:=items[i]) (by simp [hi]) fun h' a b=>hQ _ h' s.toks (by simp [hi]) ⟨a,let ⟨u,f,d⟩:=st.2; ⟨u,b.extBut l u hne f,d⟩⟩ b
  done:=fun s Q E st hE=>nextOf_tuple_end hh st.1 st.2 (by simp) hE
structure ZAp (z TI TO i1 i2:Addr) (fp1 fp2:List Addr):Prop where
  tiz:TI≠z
  toz:TO≠z
  tito:TI≠TO
  ti1:TI≠i1
  ti2:TI≠i2
  z1:z∉fp1
  z2:z∉fp2
  t1:TO∉fp1
  t2:TO∉fp2
  m1:i1∈fp1
  m2:i2∈fp2
  a1:i1∉fp2
  a2:i2∉fp1
variable {z TI TO i1 i2:Addr} {fp1 fp2:List Addr} {n1 n2 k:Nat} {P1 P2:Nat→Value→Prop} {S1 S2:Nat→Heap→Prop} {a b:Value}
theorem zipN_item {Q:Value→Shared→Prop} (Z:ZAp z TI TO i1 i2 fp1 fp2) (D1:Draws prog w A i1 fp1 n1 P1 S1) (D2:Draws prog w A i2 fp2 n2 P2 S2) (hz:IsZip s.heap z TI TO .none) (hI:IsPair s.heap TI (.ref i1) (.ref i2)) (hO:IsPair s.heap TO a b)
    (s1:S1 k s.heap) (s2:S2 k s.heap) (k1:k < n1) (k2:k < n2)
    (hQ:∀ x y h' tk,P1 k x→P2 k y→IsZip h' z TI TO (rawInt s.heap.objs.size)→IsPair h' TO x y→S1 (k + 1) h'→S2 (k + 1) h'→IsPair h' s.heap.objs.size x y→h'.objs.size=s.heap.objs.size + 1 →
      (∀ c o,c≠z→c≠TO→c≠i1→c≠i2→s.heap.get? c=some o→h'.get? c=some o)→Q (.ref s.heap.objs.size) {s with heap:=h',toks:=tk}) :
    wpAny (model prog w) A (Builtin.«zip.__next__» ⟨[.ref z],[]⟩) (fun fin s'=>∃ v,fin=.done (.ret v)∧Q v s') E s:=by
  have iz1:i1≠z:=fun e=>Z.z1 (e ▸ Z.m1)
  have iz2:i2≠z:=fun e=>Z.z2 (e ▸ Z.m2)
  have it1:i1≠TO:=fun e=>Z.t1 (e ▸ Z.m1)
  have it2:i2≠TO:=fun e=>Z.t2 (e ▸ Z.m2)
  have i12:i1≠i2:=fun e=>Z.a1 (e ▸ Z.m2)
  show wpAny _ _ (field (.ref z) 2 >>= _) _ _ _; apply wpAny_bind; apply wpAny_field hz rfl (x:=.bool false) rfl
  show wpAny _ _ (field (.ref z) 3 >>= _) _ _ _; apply wpAny_bind; apply wpAny_field hz rfl (x:=.ref TI) rfl
  apply wpAny_bind; apply wpAny_seqItems hI rfl
  show wpAny _ _ (Builtin.SmallTypes.ownedTupleIsFree (.ref z) >>= _) _ _ _; apply wpAny_bind
  unfold Builtin.SmallTypes.ownedTupleIsFree; apply wpAny_bind; apply wpAny_field hz rfl (x:=.none) rfl; apply wpAny_pure
  simp only [if_true]; apply wpAny_bind; apply wpAny_rule; apply wpAny_bind; apply wpAny_field hz rfl (x:=.ref TO) rfl
  apply wpAny_bind; refine wpAny_setField_rec hz (by simp) fun h1 y1 g1=>?_
  replace y1:IsZip h1 z TI TO .ellipsis:=y1
  apply wpAny_bind; simp only [List.zipIdx_cons,List.zipIdx_nil,List.forIn_cons,List.forIn_nil]
  apply wpAny_bind; apply wpAny_bind; apply wpAny_onRaise
  show wpAny _ _ (Builtin.SmallTypes.nextOf (.ref i1) >>= _) _ _ _; apply wpAny_bind
  refine D1.item k _ _ _ k1 (D1.frame _ _ _ s1 fun c hc o e=>g1.extBut c o (fun q=>Z.z1 (q ▸ hc)) e) fun x h2 t2 px q2 g2=>wpAny_pure ?_
  have o2:IsPair h2 TO a b:=g2.extBut _ _ (Ne.symm it1) (g1.extBut _ _ Z.toz hO)
  apply wpAny_bind; apply wpAny_seqItems o2 rfl; apply wpAny_bind
  refine wpAny_updateSeq_pair o2 fun h3 o3 g3=>wpAny_bind (wpAny_letGo (wpAny_pure ?_))
  replace o3:IsPair h3 TO x b:=o3
  apply wpAny_bind; apply wpAny_bind; apply wpAny_onRaise
  show wpAny _ _ (Builtin.SmallTypes.nextOf (.ref i2) >>= _) _ _ _; apply wpAny_bind
  refine D2.item k _ _ _ k2 (D2.frame _ _ _ s2 fun c hc o e=>g3.extBut c o (fun q=>Z.t2 (q ▸ hc)) (g2.extBut c o (fun q=>Z.a1 (q ▸ hc)) (g1.extBut c o (fun q=>Z.z2 (q ▸ hc)) e))) fun y h4 t4 py q4 g4=>wpAny_pure ?_
  have o4:IsPair h4 TO x b:=g4.extBut _ _ (Ne.symm it2) o3
  apply wpAny_bind; apply wpAny_seqItems o4 rfl; apply wpAny_bind
  refine wpAny_updateSeq_pair o4 fun h5 o5 g5=>wpAny_bind (wpAny_letGo (wpAny_pure (wpAny_pure ?_)))
  replace o5:IsPair h5 TO x y:=o5
  apply wpAny_bind; apply wpAny_seqItems o5 rfl; apply wpAny_bind; refine wpAny_newTuple ?_
  have sz:h5.objs.size=s.heap.objs.size:=by rw [g5.1,g4.1,g3.1,g2.1,g1.1]
  have y5:IsZip h5 z TI TO .ellipsis:=g5.extBut _ _ (Ne.symm Z.toz) (g4.extBut _ _ (Ne.symm iz2) (g3.extBut _ _ (Ne.symm Z.toz) (g2.extBut _ _ (Ne.symm iz1) y1)))
  have c5:∀ c o,c≠z→c≠TO→c≠i1→c≠i2→s.heap.get? c=some o→h5.get? c=some o:=fun c o c1 c2 c3 c4 e=>g5.extBut _ _ c2 (g4.extBut _ _ c4 (g3.extBut _ _ c2 (g2.extBut _ _ c3 (g1.extBut _ _ c1 e))))
  have r1:S1 (k + 1) h5:=D1.frame _ _ _ q2 fun c hc o e=>g5.extBut c o (fun q=>Z.t1 (q ▸ hc)) (g4.extBut c o (fun q=>Z.a2 (q ▸ hc)) (g3.extBut c o (fun q=>Z.t1 (q ▸ hc)) e))
  have r2:S2 (k + 1) h5:=D2.frame _ _ _ q4 fun c hc o e=>g5.extBut c o (fun q=>Z.t2 (q ▸ hc)) e
  have lz:z < h5.objs.size:=Heap.lt_size y5
  show wpAny _ _ (Builtin.SmallTypes.ownedTupleHandOut (.ref z) (.ref h5.objs.size) >>= _) _ _ _; apply wpAny_bind
  unfold Builtin.SmallTypes.ownedTupleHandOut
  have y6:IsZip (h5.push {cls:=.type "tuple",data:=.seq #[x,y]}) z TI TO .ellipsis:=Heap.get?_push_of_some _ y5
  apply wpAny_bind; refine wpAny_setField_rec y6 (by simp) fun h7 y7 g7=>?_
  replace y7:IsZip h7 z TI TO (rawInt h5.objs.size):=y7
  refine wpAny_setField_rec y7 (by simp) fun h8 y8 g8=>?_
  replace y8:IsZip h8 z TI TO (rawInt h5.objs.size):=y8
  have up:∀ c o,c≠z→h5.get? c=some o→h8.get? c=some o:=fun c o c1 e=>g8.extBut _ _ c1 (g7.extBut _ _ c1 (Heap.get?_push_of_some _ e))
  have p8:IsPair h8 h5.objs.size x y:=g8.extBut _ _ (Nat.ne_of_gt lz) (g7.extBut _ _ (Nat.ne_of_gt lz) (Heap.get?_push_size _ rfl))
  have n8:h8.objs.size=h5.objs.size + 1:=by rw [g8.1,g7.1,Heap.size_push]
  rw [sz] at y8 p8 n8
  refine wpAny_pure ⟨_,rfl,?_⟩
  show Q (.ref h5.objs.size) _
  rw [sz]
  exact hQ x y h8 t4 px py y8 (up _ _ Z.toz o5) (D1.frame _ _ _ r1 fun c hc o e=>up c o (fun q=>Z.z1 (q ▸ hc)) e) (D2.frame _ _ _ r2 fun c hc o e=>up c o (fun q=>Z.z2 (q ▸ hc)) e) p8 n8 fun c o c1 c2 c3 c4 e=>up c o c1 (c5 c o c1 c2 c3 c4 e)
theorem zipN_end {Q:Fin→Shared→Prop} (Z:ZAp z TI TO i1 i2 fp1 fp2) (D1:Draws prog w A i1 fp1 n1 P1 S1) (D2:Draws prog w A i2 fp2 n2 P2 S2) (hz:IsZip s.heap z TI TO .none) (hI:IsPair s.heap TI (.ref i1) (.ref i2)) (hO:IsPair s.heap TO a b)
    (s1:S1 k s.heap) (s2:S2 k s.heap) (hk:k=n1∨(k < n1∧k=n2))
    (hE:∀ h' e,(∀ c o,c≠z→c≠TO→c≠i1→c≠i2→s.heap.get? c=some o→h'.get? c=some o)→(∃ o,h'.get? e=some o∧o.cls=.type "StopIteration")→∀ tk,E (.ref e) {s with heap:=h',toks:=tk}) :
    wpAny (model prog w) A (Builtin.«zip.__next__» ⟨[.ref z],[]⟩) Q E s:=by
  have iz1:i1≠z:=fun e=>Z.z1 (e ▸ Z.m1)
  have iz2:i2≠z:=fun e=>Z.z2 (e ▸ Z.m2)
  have it1:i1≠TO:=fun e=>Z.t1 (e ▸ Z.m1)
  have it2:i2≠TO:=fun e=>Z.t2 (e ▸ Z.m2)
  show wpAny _ _ (field (.ref z) 2 >>= _) _ _ _; apply wpAny_bind; apply wpAny_field hz rfl (x:=.bool false) rfl
  show wpAny _ _ (field (.ref z) 3 >>= _) _ _ _; apply wpAny_bind; apply wpAny_field hz rfl (x:=.ref TI) rfl
  apply wpAny_bind; apply wpAny_seqItems hI rfl
  show wpAny _ _ (Builtin.SmallTypes.ownedTupleIsFree (.ref z) >>= _) _ _ _; apply wpAny_bind
  unfold Builtin.SmallTypes.ownedTupleIsFree; apply wpAny_bind; apply wpAny_field hz rfl (x:=.none) rfl; apply wpAny_pure
  simp only [if_true]; apply wpAny_bind; apply wpAny_rule; apply wpAny_bind; apply wpAny_field hz rfl (x:=.ref TO) rfl
  apply wpAny_bind; refine wpAny_setField_rec hz (by simp) fun h1 y1 g1=>?_
  replace y1:IsZip h1 z TI TO .ellipsis:=y1
  apply wpAny_bind; simp only [List.zipIdx_cons,List.zipIdx_nil,List.forIn_cons,List.forIn_nil]
  apply wpAny_bind; apply wpAny_bind; apply wpAny_onRaise
  show wpAny _ _ (Builtin.SmallTypes.nextOf (.ref i1) >>= _) _ _ _; apply wpAny_bind
  have f1:S1 k h1:=D1.frame _ _ _ s1 fun c hc o e=>g1.extBut c o (fun q=>Z.z1 (q ▸ hc)) e
  rcases hk with hk | ⟨k1,hk⟩
  · refine D1.done _ _ _ (hk ▸ f1) fun h2 e g2 he=>?_
    obtain ⟨oe,e1,e2⟩:=he
    have y2:IsZip h2 z TI TO .ellipsis:=g2 _ _ (Ne.symm iz1) y1
    have ez:e≠z:=fun q=>by subst q; rw [y2] at e1; cases e1; simp at e2
    exact wpAny_setField_rec y2 (by simp) fun h3 _ g3=>hE h3 e (fun c o c1 _ c3 _ q=>g3.extBut _ _ c1 (g2 _ _ c3 (g1.extBut _ _ c1 q))) ⟨oe,g3.extBut _ _ ez e1,e2⟩ _
  · refine D1.item k _ _ _ k1 f1 fun x h2 t2 px q2 g2=>wpAny_pure ?_
    have o2:IsPair h2 TO a b:=g2.extBut _ _ (Ne.symm it1) (g1.extBut _ _ Z.toz hO)
    apply wpAny_bind; apply wpAny_seqItems o2 rfl; apply wpAny_bind
    refine wpAny_updateSeq_pair o2 fun h3 o3 g3=>wpAny_bind (wpAny_letGo (wpAny_pure ?_))
    apply wpAny_bind; apply wpAny_bind; apply wpAny_onRaise
    show wpAny _ _ (Builtin.SmallTypes.nextOf (.ref i2) >>= _) _ _ _; apply wpAny_bind
    have f2:S2 k h3:=D2.frame _ _ _ s2 fun c hc o e=>g3.extBut c o (fun q=>Z.t2 (q ▸ hc)) (g2.extBut c o (fun q=>Z.a1 (q ▸ hc)) (g1.extBut c o (fun q=>Z.z2 (q ▸ hc)) e))
    refine D2.done _ _ _ (hk ▸ f2) fun h4 e g4 he=>?_
    obtain ⟨oe,e1,e2⟩:=he
    have y4:IsZip h4 z TI TO .ellipsis:=g4 _ _ (Ne.symm iz2) (g3.extBut _ _ (Ne.symm Z.toz) (g2.extBut _ _ (Ne.symm iz1) y1))
    have ez:e≠z:=fun q=>by subst q; rw [y4] at e1; cases e1; simp at e2
    exact wpAny_setField_rec y4 (by simp) fun h5 _ g5=>hE h5 e (fun c o c1 c2 c3 c4 q=>g5.extBut _ _ c1 (g4 _ _ c4 (g3.extBut _ _ c2 (g2.extBut _ _ c3 (g1.extBut _ _ c1 q))))) ⟨oe,g5.extBut _ _ ez e1,e2⟩ _
end
end M3
end
section
namespace M3
open PySem
open Sem (wp)
noncomputable def SeqIs (h:Heap) (tup:Bool) (l:Addr) (xs:Array Value):Prop:=if tup=true then h.IsTuple l xs else h.IsList l xs
noncomputable def SeqIt (h:Heap) (tup:Bool) (r l:Addr) (k:Nat):Prop:=if tup=true then h.IsTupleIter r l k else h.IsListIter r l k
noncomputable abbrev itO (tup:Bool) (l:Addr):Obj:={cls:=.type (if tup=true then "tuple_iterator" else "list_iterator"),data:=.fields #[.ref l,.int 0 0]}
theorem SeqIs.keeps {h h':Heap} {tup:Bool} {l:Addr} {xs:Array Value} (x:SeqIs h tup l xs) (k:∀ o,h.get? l=some o→h'.get? l=some o):SeqIs h' tup l xs:=by
  cases tup with
  | true=>obtain ⟨o,e,c⟩:=(show h.IsTuple l xs from x); exact (show h'.IsTuple l xs from ⟨o,k o e,c⟩)
  | false=>exact (show h'.IsList l xs from Heap.IsList.at (show h.IsList l xs from x) k)
theorem SeqIs.lt {h:Heap} {tup:Bool} {l:Addr} {xs:Array Value} (x:SeqIs h tup l xs):l < h.objs.size:=by
  cases tup with
  | true=>obtain ⟨o,e,c⟩:=(show h.IsTuple l xs from x); exact Heap.lt_size e
  | false=>obtain ⟨o,e,c⟩:=(show h.IsList l xs from x); exact Heap.lt_size e
theorem SeqIt.keeps {h h':Heap} {tup:Bool} {r l:Addr} {k:Nat} (x:SeqIt h tup r l k) (q:∀ o,h.get? r=some o→h'.get? r=some o):SeqIt h' tup r l k:=by
  cases tup with
  | true=>obtain ⟨o,e,c⟩:=(show h.IsTupleIter r l k from x); exact (show h'.IsTupleIter r l k from ⟨o,q o e,c⟩)
  | false=>obtain ⟨o,e,c⟩:=(show h.IsListIter r l k from x); exact (show h'.IsListIter r l k from ⟨o,q o e,c⟩)
theorem SeqIt.new {h:Heap} {tup:Bool} {r l:Addr} (e:h.get? r=some (itO tup l)):SeqIt h tup r l 0:=by
  cases tup with
  | true=>exact (show h.IsTupleIter r l 0 from ⟨_,e,rfl,rfl⟩)
  | false=>exact (show h.IsListIter r l 0 from ⟨_,e,rfl,rfl⟩)
theorem SeqIt.obj {h:Heap} {tup:Bool} {r l:Addr} {k:Nat} (x:SeqIt h tup r l k):∃ o,h.get? r=some o∧∀ v,o.data≠.cell v:=by
  cases tup with
  | true=>obtain ⟨o,e,c,d⟩:=(show h.IsTupleIter r l k from x); exact ⟨o,e,fun v z=>by rw [d] at z; cases z⟩
  | false=>obtain ⟨o,e,c,d⟩:=(show h.IsListIter r l k from x); exact ⟨o,e,fun v z=>by rw [d] at z; cases z⟩
section
variable {prog:Program} {w:World} {A:Around} {E:Value→Shared→Prop} {s:Shared}
theorem pyIter_seq {tup:Bool} {l:Addr} {xs:Array Value} {Q:Value→Shared→Prop} (x:SeqIs s.heap tup l xs) (h:Q (.ref s.heap.objs.size) {s with heap:=s.heap.push (itO tup l)}):wpAny (model prog w) A (pyIter (.ref l)) Q E s:=by
  cases tup with
  | true=>exact wpAny_pyIter_tuple (show s.heap.IsTuple l xs from x) h
  | false=>exact wpAny_pyIter_list (show s.heap.IsList l xs from x) h
theorem drawsSeq (hh:A.handled=none) (tup:Bool) (r l:Addr) (hne:l≠r) (items:Array Value) :
    Draws prog w A r [r,l] items.size (fun i v=>items[i]?=some v) (fun i h=>SeqIt h tup r l i∧SeqIs h tup l items):=by
  cases tup with
  | true=>exact drawsTuple hh r l hne items
  | false=>exact Draws.list hh r l hne items
end
theorem meets_zip (b1 b2:Bool) (l1 l2:Addr) (xs ys:Array Value) :
    Meets (Builtin.«zip.__new__» ⟨[.type "zip",.ref l1,.ref l2],[]⟩) (fun _ R s=>SeqIs s.heap b1 l1 xs∧SeqIs s.heap b2 l2 ys ∧
      ∀ h5,h5=((((s.heap.push (itO b1 l1)).push (itO b2 l2)).push {cls:=.type "tuple",data:=.seq #[.ref s.heap.objs.size,.ref (s.heap.push (itO b1 l1)).objs.size]}).push {cls:=.type "tuple",data:=.seq #[.none,.none]}).push
        {cls:=.type "zip",data:=.fields #[.none,.bool false,.bool false,.ref ((s.heap.push (itO b1 l1)).push (itO b2 l2)).objs.size,.ref (((s.heap.push (itO b1 l1)).push (itO b2 l2)).push {cls:=.type "tuple",data:=.seq #[.ref s.heap.objs.size,.ref (s.heap.push (itO b1 l1)).objs.size]}).objs.size]} →
      R (.ok (.ret (.ref ((((s.heap.push (itO b1 l1)).push (itO b2 l2)).push {cls:=.type "tuple",data:=.seq #[.ref s.heap.objs.size,.ref (s.heap.push (itO b1 l1)).objs.size]}).push {cls:=.type "tuple",data:=.seq #[.none,.none]}).objs.size))) {s with heap:=h5}) :=
  .of_wp fun prog w A R s h=>by
    obtain ⟨hp,g,d,tk,os⟩:=s
    obtain ⟨x1,x2,h⟩:=h
    have hsub:=sub_zip
    have y1:SeqIs (Shared.heap ⟨hp,g,d,tk,os⟩) b1 l1 xs:=x1
    have y2:SeqIs (Shared.heap ⟨hp.push (itO b1 l1),g,d,tk,os⟩) b2 l2 ys:=SeqIs.keeps x2 fun o e=>Heap.get?_push_of_some _ e
    wp_walk using pyIter_seq y1,pyIter_seq y2
    exact ⟨_,rfl,h _ rfl⟩
section
variable {prog:Program} {w:World} {A:Around} {E:Value→Shared→Prop} {s:Shared}
theorem call_zip {b1 b2:Bool} {l1 l2:Addr} {xs ys:Array Value} {Q:Value→Shared→Prop} (x1:SeqIs s.heap b1 l1 xs) (x2:SeqIs s.heap b2 l2 ys)
    (h:∀ h',IsZip h' (s.heap.objs.size + 4) (s.heap.objs.size + 2) (s.heap.objs.size + 3) .none→IsPair h' (s.heap.objs.size + 2) (.ref s.heap.objs.size) (.ref (s.heap.objs.size + 1))→IsPair h' (s.heap.objs.size + 3) .none .none →
      SeqIt h' b1 s.heap.objs.size l1 0→SeqIt h' b2 (s.heap.objs.size + 1) l2 0→(∀ c o,s.heap.get? c=some o→h'.get? c=some o)→Q (.ref (s.heap.objs.size + 4)) {s with heap:=h'}) :
    wpAny (model prog w) A (call (.type "zip") [.ref l1,.ref l2]) Q E s:=by
  refine callType_new F.called_zip (by decide) (F.typeCall_zip_2 _ _) (F.newCall_zip_2 _ _) (fun obj=>F.args_object_init_3 obj _ _) F.entry_zip_new (meets_zip b1 b2 l1 l2 xs ys) ⟨x1,x2,fun h5 e5=>?_⟩
  have n1:(s.heap.push (itO b1 l1)).objs.size=s.heap.objs.size + 1:=Heap.size_push ..
  have n2:((s.heap.push (itO b1 l1)).push (itO b2 l2)).objs.size=s.heap.objs.size + 2:=by rw [Heap.size_push,n1]
  have n3:(((s.heap.push (itO b1 l1)).push (itO b2 l2)).push {cls:=.type "tuple",data:=.seq #[.ref s.heap.objs.size,.ref (s.heap.push (itO b1 l1)).objs.size]}).objs.size=s.heap.objs.size + 3:=by rw [Heap.size_push,n2]
  have n4:((((s.heap.push (itO b1 l1)).push (itO b2 l2)).push {cls:=.type "tuple",data:=.seq #[.ref s.heap.objs.size,.ref (s.heap.push (itO b1 l1)).objs.size]}).push {cls:=.type "tuple",data:=.seq #[.none,.none]}).objs.size=s.heap.objs.size + 4:=by rw [Heap.size_push,n3]
  have q5:IsZip h5 ((((s.heap.push (itO b1 l1)).push (itO b2 l2)).push {cls:=.type "tuple",data:=.seq #[.ref s.heap.objs.size,.ref (s.heap.push (itO b1 l1)).objs.size]}).push {cls:=.type "tuple",data:=.seq #[.none,.none]}).objs.size ((s.heap.push (itO b1 l1)).push (itO b2 l2)).objs.size (((s.heap.push (itO b1 l1)).push (itO b2 l2)).push {cls:=.type "tuple",data:=.seq #[.ref s.heap.objs.size,.ref (s.heap.push (itO b1 l1)).objs.size]}).objs.size .none:=by rw [e5]; exact Heap.get?_push_size _ rfl
  have q4:IsPair h5 (((s.heap.push (itO b1 l1)).push (itO b2 l2)).push {cls:=.type "tuple",data:=.seq #[.ref s.heap.objs.size,.ref (s.heap.push (itO b1 l1)).objs.size]}).objs.size .none .none:=by rw [e5]; exact Heap.get?_push_of_some _ (Heap.get?_push_size _ rfl)
  have q3:IsPair h5 ((s.heap.push (itO b1 l1)).push (itO b2 l2)).objs.size (.ref s.heap.objs.size) (.ref (s.heap.push (itO b1 l1)).objs.size):=by rw [e5]; exact Heap.get?_push_of_some _ (Heap.get?_push_of_some _ (Heap.get?_push_size _ rfl))
  have q2:h5.get? (s.heap.push (itO b1 l1)).objs.size=some (itO b2 l2):=by rw [e5]; exact Heap.get?_push_of_some _ (Heap.get?_push_of_some _ (Heap.get?_push_of_some _ (Heap.get?_push_size _ rfl)))
  have q1:h5.get? s.heap.objs.size=some (itO b1 l1):=by rw [e5]; exact Heap.get?_push_of_some _ (Heap.get?_push_of_some _ (Heap.get?_push_of_some _ (Heap.get?_push_of_some _ (Heap.get?_push_size _ rfl))))
  show _∧_
  rw [n2,n3,n4] at q5
  rw [n2,n1] at q3
  rw [n3] at q4
  rw [n1] at q2
  rw [n4]
  exact ⟨⟨_,q5,rfl⟩,h _ q5 q3 q4 (.new q1) (.new q2) fun c o e=>by rw [e5]; exact Heap.get?_push_of_some _ (Heap.get?_push_of_some _ (Heap.get?_push_of_some _ (Heap.get?_push_of_some _ (Heap.get?_push_of_some _ e))))⟩
variable {z TI TO i1 i2:Addr} {fp1 fp2:List Addr} {n1 n2 k:Nat} {P1 P2:Nat→Value→Prop} {S1 S2:Nat→Heap→Prop} {a b:Value}
theorem pyNext_zip_item {Q:Option Value→Shared→Prop} (Z:ZAp z TI TO i1 i2 fp1 fp2) (D1:Draws prog w A.in1 i1 fp1 n1 P1 S1) (D2:Draws prog w A.in1 i2 fp2 n2 P2 S2) (hz:IsZip s.heap z TI TO .none) (hI:IsPair s.heap TI (.ref i1) (.ref i2)) (hO:IsPair s.heap TO a b)
    (s1:S1 k s.heap) (s2:S2 k s.heap) (k1:k < n1) (k2:k < n2)
    (hQ:∀ x y h' tk,P1 k x→P2 k y→IsZip h' z TI TO (rawInt s.heap.objs.size)→IsPair h' TO x y→S1 (k + 1) h'→S2 (k + 1) h'→IsPair h' s.heap.objs.size x y→h'.objs.size=s.heap.objs.size + 1 →
      (∀ c o,c≠z→c≠TO→c≠i1→c≠i2→s.heap.get? c=some o→h'.get? c=some o)→Q (some (.ref s.heap.objs.size)) {s with heap:=h',toks:=tk}) :
    wpAny (model prog w) A (pyNext (.ref z)) Q E s:=by
  have ty:s.TypeIs (.ref z) "zip":=⟨_,hz,rfl⟩
  unfold pyNext
  refine wpAny_bind (wpAny_attempt (wpAny_callSpecial?_slot (name:=Str.ofString "__next__") ty F.slot_zip_next (wpAny_call_entry F.slot_zip_next ty F.entry_zip_next ?_ (F.args_zip_next_1 _))))
  exact zipN_item Z D1 D2 hz hI hO s1 s2 k1 k2 fun x y h' tk p1 p2 e1 e2 e3 e4 e5 e6 e7=>wpAny_pure (hQ x y h' tk p1 p2 e1 e2 e3 e4 e5 e6 e7)
theorem pyNext_zip_end {Q:Option Value→Shared→Prop} (Z:ZAp z TI TO i1 i2 fp1 fp2) (D1:Draws prog w A.in1 i1 fp1 n1 P1 S1) (D2:Draws prog w A.in1 i2 fp2 n2 P2 S2) (hz:IsZip s.heap z TI TO .none) (hI:IsPair s.heap TI (.ref i1) (.ref i2)) (hO:IsPair s.heap TO a b)
    (s1:S1 k s.heap) (s2:S2 k s.heap) (hk:k=n1∨(k < n1∧k=n2))
    (hQ:∀ h' tk,(∀ c o,c≠z→c≠TO→c≠i1→c≠i2→s.heap.get? c=some o→h'.get? c=some o)→Q none {s with heap:=h',toks:=tk}) :
    wpAny (model prog w) A (pyNext (.ref z)) Q E s:=by
  have ty:s.TypeIs (.ref z) "zip":=⟨_,hz,rfl⟩
  unfold pyNext
  refine wpAny_bind (wpAny_attempt (wpAny_callSpecial?_slot (name:=Str.ofString "__next__") ty F.slot_zip_next (wpAny_call_entry F.slot_zip_next ty F.entry_zip_next ?_ (F.args_zip_next_1 _))))
  refine zipN_end Z D1 D2 hz hI hO s1 s2 hk fun h' e kk ho tk=>?_
  obtain ⟨o,e1,e2⟩:=ho
  exact wpAny_bind (wpAny_isInstance (T:="StopIteration") (b:=true) ⟨o,e1,e2⟩ isSubtype_stop (wpAny_pure (hQ h' tk kk)))
end
end M3
end
section
namespace M3
open PySem
open Sem (wp)
set_option tactic.hygienic true in
theorem meets_enum (tup:Bool) (l:Addr) (xs:Array Value) :
    Meets (Builtin.«enumerate.__new__» ⟨[.type "enumerate",.ref l],[]⟩) (fun _ R s=>(SeqIs s.heap tup l xs∧∃ o,s.heap.get? l=some o) ∧
      ∀ h2,h2=(s.heap.push (itO tup l)).push {cls:=.type "enumerate",data:=.fields #[.none,.bool false,.ref s.heap.objs.size,rawInt 0,.none,.none]} →
      R (.ok (.ret (.ref (s.heap.push (itO tup l)).objs.size))) {s with heap:=h2}) :=
  .of_wp fun prog w A R s h=>by
    obtain ⟨hp,g,d,tk,os⟩:=s
    obtain ⟨⟨x1,o,ho⟩,h⟩:=h
    have hsub:=sub_enumerate
    have ho':Heap.get? (Shared.heap ⟨hp,g,d,tk,os⟩) l=some o:=ho
    have y1:SeqIs (Shared.heap ⟨hp,g,d,tk,os⟩) tup l xs:=x1
    wp_walk using wpAny_loadPart' ho'
    refine wpAny_stack_any fun st=>wpAny_pure ?_
    split
    · rename_i c _ _ _ _ _
      cases (c == Value.type "enumerate")
      · wp_walk using wpAny_loadPart' ho',pyIter_seq y1; exact ⟨_,rfl,h _ rfl⟩
      · wp_walk using wpAny_loadPart' ho',pyIter_seq y1; exact ⟨_,rfl,h _ rfl⟩
    · wp_walk using wpAny_loadPart' ho',pyIter_seq y1; exact ⟨_,rfl,h _ rfl⟩
section
variable {prog:Program} {w:World} {A:Around} {E:Value→Shared→Prop} {s:Shared}
theorem call_enum {tup:Bool} {l:Addr} {xs:Array Value} {Q:Value→Shared→Prop} (x1:SeqIs s.heap tup l xs)
    (h:∀ h',IsEnum h' (s.heap.objs.size + 1) s.heap.objs.size 0 .none→SeqIt h' tup s.heap.objs.size l 0→(∀ b o,s.heap.get? b=some o→h'.get? b=some o)→Q (.ref (s.heap.objs.size + 1)) {s with heap:=h'}) :
    wpAny (model prog w) A (call (.type "enumerate") [.ref l]) Q E s:=by
  have ho:∃ o,s.heap.get? l=some o:=by
    cases tup with
    | true=>obtain ⟨o,e,_⟩:=(show s.heap.IsTuple l xs from x1); exact ⟨o,e⟩
    | false=>obtain ⟨o,e,_⟩:=(show s.heap.IsList l xs from x1); exact ⟨o,e⟩
  refine callType_new F.called_enumerate (by decide) (F.typeCall_enumerate_1 _) (F.newCall_enumerate_1 _) (fun obj=>F.args_object_init_2 obj _) F.entry_enumerate_new (meets_enum tup l xs) ⟨⟨x1,ho⟩,fun h2 e2=>?_⟩
  have n1:(s.heap.push (itO tup l)).objs.size=s.heap.objs.size + 1:=Heap.size_push ..
  have q2:IsEnum h2 (s.heap.push (itO tup l)).objs.size s.heap.objs.size 0 .none:=by rw [e2]; exact Heap.get?_push_size _ rfl
  have q1:h2.get? s.heap.objs.size=some (itO tup l):=by rw [e2]; exact Heap.get?_push_of_some _ (Heap.get?_push_size _ rfl)
  rw [n1] at q2
  show _∧_
  rw [n1]
  exact ⟨⟨_,q2,rfl⟩,h _ q2 (.new q1) fun b o e=>by rw [e2]; exact Heap.get?_push_of_some _ (Heap.get?_push_of_some _ e)⟩
end
end M3
end
section
namespace L3
open PySem PySem.Spec PyProof.Rows L2 M3
section
variable {X:Cx} {pins:List (Addr×Obj)} {σ:L2.St} {H:Hp} {s:Shared}
theorem hok_track {P:Program} {w:World} {h:Heap} {D:Addr} {o:HO} (ok:HOk P w H h) (hn:H D=none) (new:ObjOk P w (upd H D o) h D o):HOk P w (upd H D o) h:=fun b u e=>by
  by_cases hb:b=D
  · subst hb; rw [upd_same] at e; cases e; exact new
  · rw [upd_ne hb] at e
    exact (ok b u e).stay (fun _ _ _ q=>q) (fun c q=>by rw [upd_ne (ne_of_none q hn)]; exact q) fun c xs q=>by rw [upd_ne (ne_of_none q hn)]; exact q
theorem Inv_track {D:Addr} {o:HO} (I:Inv X pins σ H s) (f:FpOk X pins H D) (h0:X.s₀.heap.objs.size≤D) (new:ObjOk X.prog X.w (upd H D o) s.heap D o):Inv X pins σ (upd H D o) s:=by
  obtain ⟨f0,f1,f2,f3,f4,f5⟩:=f
  refine ⟨I.ok,I.os,I.bare,⟨I.base.keep,I.base.slot,fun b u e n hx=>?_,I.base.there,fun b xs e=>?_,fun b u xs e=>?_,fun b ps e=>?_⟩,I.loc,I.cell,?_,fun x c e=>?_,fun p hp=>?_,hok_track I.hok f0 new,I.len⟩
  · rw [upd_ne (Nat.ne_of_lt (Nat.lt_of_lt_of_le (Heap.lt_size e) h0))]; exact I.base.free b u e n hx
  · have q:=I.base.tups b xs e
    rw [upd_ne (ne_of_none q f0)]; exact q
  · have q:=I.base.frzs b u xs e
    rw [upd_ne (ne_of_none q f0)]; exact q
  · obtain ⟨m,q⟩:=I.base.tbls b ps e
    exact ⟨m,by rw [upd_ne (ne_of_none q f0)]; exact q⟩
  · rw [upd_ne (Ne.symm f1)]; exact I.free
  · rw [upd_ne (f4 x c e)]; exact I.freeC x c e
  · obtain ⟨e1,e2,e3,e4,e5⟩:=I.pin p hp
    exact ⟨e1,by rw [upd_ne (f5 p hp)]; exact e2,e3,e4,e5⟩
end
noncomputable def compOkB (sc:Scope) (N:List Str) (cs:Scope) (N':List Str) (ncv:Nat) (js:List Nat):Bool :=
  cs.kind == .function&&cs.names.all (fun y=>y.2 != .cell || cs.names.lookup y.1 == some .cell)&&cs.names.all (fun y=>y.2 != .free || (sc.names.lookup y.1 == some .cell || sc.names.lookup y.1 == some .free)) &&
  cs.names.all (fun y=>y.2 != .local || cs.names.lookup y.1 == some .local)&&(N'.drop ncv).all (fun x=>cs.names.lookup x == some .free)&&decide ((N'.drop ncv).map some=js.map (fun j=>N[j]?))&&decide (ncv≤N'.length)
structure CompOk (sc:Scope) (N:List Str) (cs:Scope) (N':List Str) (ncv:Nat) (js:List Nat):Prop where
  kind:cs.kind=.function
  cel:∀ y∈cs.names,y.2=.cell→cs.names.lookup y.1=some .cell
  free:∀ y∈cs.names,y.2=.free→sc.names.lookup y.1=some .cell∨sc.names.lookup y.1=some .free
  locs:∀ y∈cs.names,y.2=.local→cs.names.lookup y.1=some .local
  frees:∀ x∈N'.drop ncv,cs.names.lookup x=some .free
  at_:(N'.drop ncv).map some=js.map (fun j=>N[j]?)
  ncv:ncv≤N'.length
theorem CompOk.of {sc:Scope} {N:List Str} {cs:Scope} {N':List Str} {ncv:Nat} {js:List Nat} (h:compOkB sc N cs N' ncv js=true):CompOk sc N cs N' ncv js:=by
  simp only [compOkB,Bool.and_eq_true,List.all_eq_true,decide_eq_true_eq,Bool.or_eq_true,beq_iff_eq,bne_iff_ne,ne_eq] at h
  obtain ⟨⟨⟨⟨⟨⟨h1,h2⟩,h3⟩,h4⟩,h5⟩,h6⟩,h7⟩:=h
  exact ⟨h1,fun y hy e=>(h2 y hy).resolve_left fun z=>z e,fun y hy e=>(h3 y hy).resolve_left fun z=>z e,fun y hy e=>(h4 y hy).resolve_left fun z=>z e,h5,h6,h7⟩
theorem lookup_mem {names:List (Str×NameKind)} {x:Str} {k:NameKind} (h:names.lookup x=some k):(x,k)∈names:=PySem.mem_of_lookup h
theorem relabel_free {env:Env}:∀ {names:List (Str×NameKind)} {x:Str},
    ((names.map fun (n,k)=>if (k == NameKind.free&&env.scope.kind == .function&&env.kindOf n == some .cell) then (n,NameKind.cell) else (n,k)).lookup x=some .cell ∨
      (names.map fun (n,k)=>if (k == NameKind.free&&env.scope.kind == .function&&env.kindOf n == some .cell) then (n,NameKind.cell) else (n,k)).lookup x=some .free)→names.lookup x=some .free∨names.lookup x=some .cell
  | [],_,h=>by simp at h
  | (n,k)::r,x,h=>by
    have ih:=@relabel_free env r x
    rw [List.map_cons] at h
    by_cases hb:(k == NameKind.free&&env.scope.kind == .function&&env.kindOf n == some .cell)=true
    · have hkf:k=.free:=by
        simp only [Bool.and_eq_true,beq_iff_eq] at hb
        exact hb.1.1
      simp only [hb,if_true] at h
      cases hx:x == n with
      | true=>simp only [List.lookup_cons,hx]; rw [hkf]; exact .inl rfl
      | false =>
        simp only [List.lookup_cons,hx] at h ⊢
        exact ih h
    · simp only [hb,Bool.false_eq_true,if_false] at h
      cases hx:x == n with
      | true =>
        simp only [List.lookup_cons,hx] at h ⊢
        exact h.symm
      | false =>
        simp only [List.lookup_cons,hx] at h ⊢
        exact ih h
theorem relabel_of_free {env:Env}:∀ {names:List (Str×NameKind)} {x:Str},names.lookup x=some .free →
    ((names.map fun (n,k)=>if (k == NameKind.free&&env.scope.kind == .function&&env.kindOf n == some .cell) then (n,NameKind.cell) else (n,k)).lookup x=some .cell ∨
      (names.map fun (n,k)=>if (k == NameKind.free&&env.scope.kind == .function&&env.kindOf n == some .cell) then (n,NameKind.cell) else (n,k)).lookup x=some .free)
  | [],_,h=>by simp at h
  | (n,k)::r,x,h=>by
    have ih:=@relabel_of_free env r x
    rw [List.map_cons]
    cases hx:x == n with
    | true =>
      simp only [List.lookup_cons,hx] at h
      cases h
      by_cases hb:((NameKind.free:NameKind) == NameKind.free&&env.scope.kind == .function&&env.kindOf n == some .cell)=true
      · simp only [hb,if_true,List.lookup_cons,hx]; simp
      · simp only [hb,Bool.false_eq_true,if_false,List.lookup_cons,hx]; simp
    | false =>
      simp only [List.lookup_cons,hx] at h
      by_cases hb:(k == NameKind.free&&env.scope.kind == .function&&env.kindOf n == some .cell)=true
      · simp only [hb,if_true,List.lookup_cons,hx]; exact ih h
      · simp only [hb,Bool.false_eq_true,if_false,List.lookup_cons,hx]; exact ih h
theorem freeCells_lookup {env:Env}:∀ (names:List (Str×NameKind)) (cs:List (Str×Addr)) {x:Str} {c:Addr},(∀ y∈names,y.2=.free→∃ c,env.cells.lookup y.1=some c)→(∀ x c,cs.lookup x=some c→env.cells.lookup x=some c) →
    (freeCells env names cs).lookup x=some c→env.cells.lookup x=some c
  | [],cs,x,c,_,hcs,h=>hcs x c h
  | (n,k)::r,cs,x,c,hn,hcs,h=>by
    refine freeCells_lookup r _ (fun y hy=>hn y (List.mem_cons_of_mem _ hy)) (fun x' c' h'=>?_) h
    by_cases hk:(k == .free)=true
    · rw [if_pos hk] at h'
      obtain ⟨c0,e0⟩:=hn (n,k) List.mem_cons_self (by simpa using hk)
      cases hx:x' == n with
      | true =>
        simp only [List.lookup_cons,hx] at h'
        cases h'
        rw [beq_iff_eq.mp hx,e0]; rfl
      | false =>
        simp only [List.lookup_cons,hx] at h'
        exact hcs x' c' h'
    · rw [if_neg hk] at h'
      exact hcs x' c' h'
theorem freeCells_keep {env:Env}:∀ (names:List (Str×NameKind)) (cs:List (Str×Addr)) {x:Str},(∃ c,cs.lookup x=some c)→∃ c,(freeCells env names cs).lookup x=some c
  | [],cs,x,h=>h
  | (n,k)::r,cs,x,h=>by
    refine freeCells_keep r _ ?_
    by_cases hk:(k == .free)=true
    · rw [if_pos hk]
      cases hx:x == n with
      | true=>exact ⟨(env.cells.lookup n).getD 0,by simp only [List.lookup_cons,hx]⟩
      | false =>
        obtain ⟨c,e⟩:=h
        exact ⟨c,by simp only [List.lookup_cons,hx]; exact e⟩
    · rw [if_neg hk]; exact h
theorem freeCells_has {env:Env}:∀ (names:List (Str×NameKind)) (cs:List (Str×Addr)) {x:Str},(x,NameKind.free)∈names→∃ c,(freeCells env names cs).lookup x=some c
  | [],_,_,h=>nomatch h
  | (n,k)::r,cs,x,h=>by
    rcases List.mem_cons.mp h with e | h
    · cases e
      refine freeCells_keep r _ ?_
      rw [if_pos (by decide)]
      exact ⟨(env.cells.lookup n).getD 0,by simp only [List.lookup_cons,beq_self_eq_true]⟩
    · exact freeCells_has r _ h
theorem cf_keep:∀ (names:List (Str×NameKind)) (n n0:Nat) (acc:List (Str×Addr)) {x:Str},n0≤n→(∃ c,acc.lookup x=some c∧n0≤c)→∃ c,(cellsFrom n names acc).lookup x=some c∧n0≤c
  | [],_,_,_,_,_,h=>h
  | (y,k)::r,n,n0,acc,x,hn,h=>by
    unfold cellsFrom
    split
    · refine cf_keep r (n + 1) n0 _ (by lia) ?_
      cases hx:x == y with
      | true=>exact ⟨n,by simp only [List.lookup_cons,hx],hn⟩
      | false =>
        obtain ⟨c,e,l⟩:=h
        exact ⟨c,by simp only [List.lookup_cons,hx]; exact e,l⟩
    · exact cf_keep r n n0 acc hn h
theorem cf_own:∀ (names:List (Str×NameKind)) (n:Nat) (acc:List (Str×Addr)) {x:Str},(x,NameKind.cell)∈names→∃ c,(cellsFrom n names acc).lookup x=some c∧n≤c
  | [],_,_,_,h=>nomatch h
  | (y,k)::r,n,acc,x,h=>by
    unfold cellsFrom
    rcases List.mem_cons.mp h with e | h
    · cases e
      rw [if_pos (by decide)]
      exact cf_keep r (n + 1) n _ (by lia) ⟨n,by simp only [List.lookup_cons,beq_self_eq_true],Nat.le_refl _⟩
    · split
      · obtain ⟨c,e,l⟩:=cf_own r (n + 1) ((y,n)::acc) h
        exact ⟨c,e,by lia⟩
      · exact cf_own r n acc h
theorem cf_other:∀ (names:List (Str×NameKind)) (n:Nat) (acc:List (Str×Addr)) {x:Str},(x,NameKind.cell)∉names→(cellsFrom n names acc).lookup x=acc.lookup x
  | [],_,_,_,_=>rfl
  | (y,k)::r,n,acc,x,h=>by
    unfold cellsFrom
    split
    · rename_i hk
      rw [cf_other r (n + 1) _ fun z=>h (List.mem_cons_of_mem _ z)]
      have:(x == y)=false:=by
        rw [beq_eq_false_iff_ne]
        intro e; subst e
        have:k=.cell:=by simpa using hk
        subst this
        exact h List.mem_cons_self
      simp only [List.lookup_cons,this]
    · exact cf_other r n acc fun z=>h (List.mem_cons_of_mem _ z)
theorem cf_split:∀ (names:List (Str×NameKind)) (n:Nat) (acc:List (Str×Addr)) {x:Str} {c:Addr},(cellsFrom n names acc).lookup x=some c→acc.lookup x=some c∨n≤c
  | [],_,_,_,_,h=>.inl h
  | (y,k)::r,n,acc,x,c,h=>by
    unfold cellsFrom at h
    split at h
    · rcases cf_split r (n + 1) _ h with e | e
      · cases hx:x == y with
        | true=>simp only [List.lookup_cons,hx] at e; cases e; exact .inr (Nat.le_refl _)
        | false=>simp only [List.lookup_cons,hx] at e; exact .inl e
      · exact .inr (by lia)
    · exact cf_split r n acc h
theorem cf_inj:∀ (names:List (Str×NameKind)) (n:Nat) (acc:List (Str×Addr)),(∀ x c,acc.lookup x=some c→c < n)→(∀ x y c,acc.lookup x=some c→acc.lookup y=some c→x=y) →
    ∀ x y c,(cellsFrom n names acc).lookup x=some c→(cellsFrom n names acc).lookup y=some c→x=y
  | [],_,_,_,hi=>hi
  | (z,k)::r,n,acc,hb,hi=>by
    unfold cellsFrom
    split
    · refine cf_inj r (n + 1) _ (fun x c e=>?_) fun x y c e1 e2=>?_
      · cases hx:x == z with
        | true=>simp only [List.lookup_cons,hx] at e; cases e; exact Nat.lt_succ_self _
        | false=>simp only [List.lookup_cons,hx] at e; exact Nat.lt_succ_of_lt (hb x c e)
      · cases hx:x == z with
        | true =>
          simp only [List.lookup_cons,hx] at e1
          cases e1
          cases hy:y == z with
          | true=>rw [beq_iff_eq.mp hx,beq_iff_eq.mp hy]
          | false=>simp only [List.lookup_cons,hy] at e2; exact absurd (hb y _ e2) (Nat.lt_irrefl _)
        | false =>
          simp only [List.lookup_cons,hx] at e1
          cases hy:y == z with
          | true=>simp only [List.lookup_cons,hy] at e2; cases e2; exact absurd (hb x _ e1) (Nat.lt_irrefl _)
          | false=>simp only [List.lookup_cons,hy] at e2; exact hi x y c e1 e2
    · exact cf_inj r n acc hb hi
theorem cf_cell:∀ (names:List (Str×NameKind)) (h:Heap) (acc:List (Str×Addr)),(∀ x c,acc.lookup x=some c→∃ v,h.IsCell c v)→∀ x c,(cellsFrom h.objs.size names acc).lookup x=some c→∃ v,(pushCells h names).IsCell c v
  | [],_,_,hc=>hc
  | (y,k)::r,h,acc,hc=>by
    unfold cellsFrom pushCells
    split
    · have:=cf_cell r (h.push {cls:=.type "cell",data:=.cell none}) ((y,h.objs.size)::acc) fun x c e=>by
        cases hx:x == y with
        | true=>simp only [List.lookup_cons,hx] at e; cases e; exact ⟨none,_,Heap.get?_push_size _ rfl,rfl⟩
        | false =>
          simp only [List.lookup_cons,hx] at e
          obtain ⟨v,q⟩:=hc x c e
          exact ⟨v,q.keeps fun b o e=>Heap.get?_push_of_some _ e⟩
      rwa [Heap.size_push] at this
    · exact cf_cell r h acc hc
theorem wpAny_newEnvC {M:Model} {A:Around} {E:Value→Shared→Prop} {s:Shared} {scope:Scope} {globals:Addr} {closure:List (Str×Addr)} {qual:Str} {func:Option Addr} {code:Value} {env:Env} {builtins:Addr} {Q:Env→Shared→Prop}
    (hQ:∀ h',h'.Ns s.heap.objs.size (fun _=>none)→(∀ b o,s.heap.get? b=some o→h'.get? b=some o) →
      ((∀ x c,closure.lookup x=some c→∃ v,s.heap.IsCell c v)→∀ x c,(cellsFrom (s.heap.objs.size + 1) scope.names closure).lookup x=some c→∃ v,h'.IsCell c v) →
      Q (newEnv scope s.heap.objs.size globals (cellsFrom (s.heap.objs.size + 1) scope.names closure) qual func code (some env) builtins) {s with heap:=h'}) :
    wpAny M A (newFunctionEnv scope globals closure [] qual func code (some env) builtins) Q E s:=by
  simp only [newFunctionEnv,Option.isSome_some,if_true]
  refine wpAny_bind (wpAny_alloc ?_)
  refine wpAny_bind (wpAny_layCells _ (fun name kind cells=>by cases hkc:kind == NameKind.cell <;> simp [hkc]) _ _ _ _ ?_)
  rw [show ({s with heap:=s.heap.push {cls:=.type "dict",data:=.dict #[]}}:Shared).heap.objs.size=s.heap.objs.size + 1 from Heap.size_push ..]
  refine wpAny_bind (wpAny_pure (wpAny_pure (hQ _ ?_ ?_ ?_)))
  · exact (Heap.Ns.new s.heap (.type "dict")).keeps (pushCells_keeps _ _)
  · exact fun b o e=>pushCells_keeps _ _ b o (Heap.get?_push_of_some _ e)
  · intro hc
    have:=cf_cell scope.names (s.heap.push {cls:=.type "dict",data:=.dict #[]}) closure fun x c e=>let ⟨v,q⟩:=hc x c e; ⟨v,q.keeps fun b o e=>Heap.get?_push_of_some _ e⟩
    rwa [Heap.size_push] at this
noncomputable def cxC (X:Cx) (cs:Scope) (N':List Str) (C:Addr) (s3:Shared) (H:Hp) (ex:List Addr):Cx :=
  {X with N:=N',s₀:=s3,H₀:=H,env:=compEnvC cs (cellsFrom (C + 1) cs.names (freeCells X.env cs.names [])) C X.env,outer:=X.stack,stack:=X.stack,ex:=ex,fn:=fun x=>cs.names.lookup x == some .cell,xe:=fun _ _=>False}
noncomputable def stC (ncv:Nat) (js:List Nat) (σ:L2.St):L2.St:=List.replicate ncv none++js.map fun j=>(σ[j]?).join
section
variable {X:Cx} {pins:List (Addr×Obj)} {σ:L2.St} {H:Hp} {s3:Shared}
theorem comp_start {cs:Scope} {N':List Str} {ncv:Nat} {js:List Nat} {ex:List Addr} {h1:Heap} {tk:Nat} (I:Inv X pins σ H s3) (ok:CompOk X.env.scope X.N cs N' ncv js) (hex:∀ b∈ex,FpOk X pins H b∧b < s3.heap.objs.size)
    (hns:h1.Ns s3.heap.objs.size fun _=>none) (hk:∀ b o,s3.heap.get? b=some o→h1.get? b=some o)
    (hcl:(∀ x c,(freeCells X.env cs.names []).lookup x=some c→∃ v,s3.heap.IsCell c v)→∀ x c,(cellsFrom (s3.heap.objs.size + 1) cs.names (freeCells X.env cs.names [])).lookup x=some c→∃ v,h1.IsCell c v) :
    Inv (cxC X cs N' s3.heap.objs.size s3 H ex) [] (stC ncv js σ) H {s3 with heap:=h1,toks:=tk}:=by
  have hfc:∀ y∈cs.names,y.2=.free→∃ c,X.env.cells.lookup y.1=some c:=fun y hy e=>I.ok.has y.1 (ok.free y hy e)
  have lk:∀ {x c},(freeCells X.env cs.names []).lookup x=some c→X.env.cells.lookup x=some c:=fun {x c} h=>freeCells_lookup cs.names [] hfc (fun _ _ z=>by simp at z) h
  have clt:∀ {x c},X.env.cells.lookup x=some c→c < s3.heap.objs.size:=fun {x c} e=>let ⟨v,q⟩:=I.cell x c e; q.lt
  have cl2:=hcl fun x c e=>I.cell x c (lk e)
  have spl:∀ {x c},(cellsFrom (s3.heap.objs.size + 1) cs.names (freeCells X.env cs.names [])).lookup x=some c→X.env.cells.lookup x=some c∨s3.heap.objs.size + 1≤c:=fun {x c} e=>(cf_split cs.names _ _ e).imp lk id
  have nown:∀ {x},cs.names.lookup x=some .free→(x,NameKind.cell)∉cs.names:=fun {x} e z=>by have:=ok.cel _ z rfl; rw [e] at this; cases this
  refine ⟨⟨I.ok.mod,ok.kind,I.ok.glob,I.ok.blt,Nat.le_refl _,fun x y c e1 e2=>cf_inj cs.names _ _ (fun x c e=>Nat.lt_succ_of_lt (clt (lk e))) (fun x y c e1 e2=>I.ok.inj x y c (lk e1) (lk e2)) x y c e1 e2,fun x hx=>?_,fun x c z e=>?_,I.ok.hd,I.ok.frames,.inl rfl,fun b hb=>?_,I.bs,Nat.le_trans I.ok.bsz I.sz,fun b o e hb=>?_,fun b hb=>?_,I.stack,I.stkFree⟩,
    rfl,I.bare,Un.kept hk,⟨_,hns,fun i x v e1 e2 e3=>?_⟩,fun x c e=>cl2 x c e,I.hok.fresh (Nat.le_refl _),fun x c e=>(spl e).elim (fun q=>I.freeC x c q) fun q=>I.hok.fresh (by lia),fun p hp=>?_,I.hok.kept hk,?_⟩
  · rcases relabel_free hx with hx | hx
    · rw [show ∀ n,(cxC X cs N' s3.heap.objs.size s3 H ex).env.cells.lookup x=(cellsFrom (s3.heap.objs.size + 1) cs.names (freeCells X.env cs.names [])).lookup x from fun _=>rfl]
      · rw [cf_other _ _ _ (nown hx)]
        exact freeCells_has cs.names [] (lookup_mem hx)
      · exact 0
    · obtain ⟨c,e,_⟩:=cf_own cs.names (s3.heap.objs.size + 1) (freeCells X.env cs.names []) (lookup_mem hx)
      exact ⟨c,e⟩
  · have z':cs.names.lookup x=some .cell:=by simpa using (show (cs.names.lookup x == some .cell)=true from z)
    obtain ⟨c',e',l⟩:=cf_own cs.names (s3.heap.objs.size + 1) (freeCells X.env cs.names []) (lookup_mem z')
    have:c=c':=by
      have e2:(cellsFrom (s3.heap.objs.size + 1) cs.names (freeCells X.env cs.names [])).lookup x=some c:=e
      rw [e'] at e2; exact (Option.some.inj e2).symm
    rw [this]
    exact Nat.le_of_succ_le l
  · obtain ⟨⟨_,_,_,_,f4,_⟩,lt⟩:=hex b hb
    refine ⟨Nat.ne_of_lt lt,fun x c e=>?_⟩
    rcases spl e with q | q
    · exact f4 x c q
    · exact Nat.ne_of_gt (Nat.lt_trans lt q)
  · obtain ⟨⟨_,_,_,f3,_,_⟩,_⟩:=hex b hb
    rcases f3 with f3 | f3
    · exact I.ok.noex b o e f3
    · exact absurd (Nat.lt_of_lt_of_le (Heap.lt_size e) (Nat.le_trans I.ok.bsz f3)) (Nat.lt_irrefl _)
  · obtain ⟨⟨_,f1,f2,_,_,_⟩,_⟩:=hex b hb
    intro z
    rcases List.mem_cons.mp (I.stkSub b z) with e | e
    · exact f1 e
    · exact f2 e
  · -- a name around, by its cell
    have hi:¬ i < ncv:=fun hi=>by
      unfold stC at e2
      rw [List.getElem?_append_left (by simpa using hi),List.getElem?_replicate,if_pos hi] at e2
      cases e2
    have ex1:(N'.drop ncv)[i - ncv]?=some x:=by
      rw [List.getElem?_drop]
      have q:ncv + (i - ncv)=i:=by lia
      rw [q]; exact e1
    have hfree:=ok.frees x (List.mem_of_getElem? ex1)
    have eN:(js.map fun j=>X.N[j]?)[i - ncv]?=some (some x):=by rw [← ok.at_,List.getElem?_map,ex1]; rfl
    unfold stC at e2
    rw [List.getElem?_append_right (by simpa using Nat.le_of_not_lt hi),List.length_replicate,List.getElem?_map] at e2
    rw [List.getElem?_map] at eN
    cases ej:js[i - ncv]? with
    | none=>rw [ej] at e2; cases e2
    | some j =>
      rw [ej] at e2 eN
      have e2':(σ[j]?).join=some v:=Option.some.inj e2
      have eN':X.N[j]?=some x:=Option.some.inj eN
      have eσ:σ[j]?=some (some v):=by
        cases q:σ[j]? with
        | none=>rw [q] at e2'; cases e2'
        | some u=>rw [q] at e2'; exact congrArg some e2'
      have hvis:X.env.scope.names.lookup x=some .cell∨X.env.scope.names.lookup x=some .free:=ok.free (x,.free) (lookup_mem hfree) rfl
      obtain ⟨m,hn,hl⟩:=I.loc
      obtain ⟨u,r,l⟩:=hl j x v eN' eσ (.inr hvis)
      refine ⟨u,r,.inr ⟨relabel_of_free hfree,?_⟩⟩
      rcases l with ⟨k,_⟩ | ⟨_,c,ec,z⟩
      · rcases hvis with q | q
        · rw [show X.env.kindOf x=X.env.scope.names.lookup x from rfl,q] at k; cases k
        · rw [show X.env.kindOf x=X.env.scope.names.lookup x from rfl,q] at k; cases k
      · obtain ⟨c',ec'⟩:=freeCells_has (env:=X.env) cs.names [] (lookup_mem hfree)
        have:=lk ec'
        rw [ec] at this; cases this
        obtain ⟨o,ho,hd⟩:=z
        refine ⟨c,?_,o,hk c o ho,hd⟩
        show (cellsFrom (s3.heap.objs.size + 1) cs.names (freeCells X.env cs.names [])).lookup x=some c
        rw [cf_other _ _ _ (nown hfree)]; exact ec'
  · have hp':p∈X.pn:=by
      have hp1:p∈X.pn++[]:=hp
      rw [List.append_nil] at hp1
      exact hp1
    obtain ⟨e1,e2,e3,e4,e5⟩:=I.pin p (List.mem_append_left _ hp')
    refine ⟨hk _ _ e1,e2,Nat.ne_of_lt (Heap.lt_size e1),fun z=>?_,e5⟩
    rcases List.mem_cons.mp (I.stkSub p.1 z) with e | e
    · exact e3 e
    · exact e4 e
  · have q:=congrArg List.length ok.at_
    rw [List.length_map,List.length_map,List.length_drop] at q
    unfold stC
    show _=N'.length
    rw [List.length_append,List.length_replicate,List.length_map]
    have:=ok.ncv
    lia
end
section
variable {X:Cx}
noncomputable def PIf (X:Cx) (ifs:List Expr) (t:TT):Prop:=∀ (pins:List (Addr×Obj)) (s:Shared) (σ:L2.St) (H:Hp) (Q:Bool→Hp→Prop),Inv X pins σ H s→t σ H Q→wpAny (model X.prog X.w) X.A (ifsOf ifs X.env) (TP X pins σ Q) X.xe s
noncomputable def tYes:TT:=fun _ H Q=>Q true H
theorem pif_nil:PIf X [] tYes:=fun pins s σ H Q I h=>wpAny_tests_nil ⟨H,I,h⟩
theorem pif_one {c:Expr} {t:TT} (h:PT X c t):PIf X [c] t:=fun pins s σ H Q I hw=>wpAny_tests_one (h pins s σ H Q I hw)
noncomputable def CompW (J:It) (ncv:Nat) (js:List Nat) (g:TG) (tc:TT) (te:TE) (σ:L2.St) (H:Hp) (Q:VK):Prop :=
  ∃ W:Nat→Nat→List V→L2.St→Hp→Prop,(∃ m,W 0 m [] (stC ncv js σ) H)∧∀ i m acc σ' H',W i m acc σ' H' →
    (J.stop i H'∧∀ D,H' D=none→Q (.ref D) (upd H' D (.lst acc))) ∨
    (J.go i H'∧∀ x H2,J.yld i H' x H2→g x σ' H2 fun σ2 H3=>tc σ2 H3 fun b H4 =>
      if b=true then te σ2 H4 fun y H5=>acc.length < sizeLine∧∃ m',m' < m∧W (i + 1) m' (acc++[y]) σ2 H5 else ∃ m',m' < m∧W (i + 1) m' acc σ2 H4)
noncomputable def tComp (wi:TI) (ncv:Nat) (js:List Nat) (g:TG) (tc:TT) (te:TE):TE:=fun σ H Q=>wi σ H fun J H1=>CompW J ncv js g tc te σ H1 Q
theorem pinned_get {Y:Cx} {pins:List (Addr×Obj)} {σ:L2.St} {H:Hp} {s:Shared} {b:Addr} {o:Obj} (I:Inv Y pins σ H s) (h:(b,o)∈pins):s.heap.get? b=some o∧H b=none :=
  let z:=I.pin (b,o) (List.mem_append_right _ h); ⟨z.1,z.2.1⟩
noncomputable def Ends1 (X:Cx) (J:It) (fp:List Addr) (it:Addr) (tn:Nat→Heap→Prop):Prop :=
  ∀ (Y:Cx),Y.prog=X.prog→Y.w=X.w→Y.K=X.K→Y.calm=X.calm→Y.A=X.A→Y.pn=X.pn→∀ (i:Nat) (pins:List (Addr×Obj)) (s:Shared) (σ:L2.St) (H:Hp) (E:Value→Shared→Prop),Inv Y pins σ H s→(∀ b∈fp,FpOk Y pins H b)→tn i s.heap→J.stop i H →
    wpAny (model X.prog X.w) X.A (pyNext (.ref it)) (fun r s1=>r=none∧Inv Y pins σ H s1) E s
noncomputable def Item1 (X:Cx) (tg:Expr) (J:It) (fp:List Addr) (it:Addr) (tn:Nat→Heap→Prop):Prop :=
  ∀ (Y:Cx),Y.prog=X.prog→Y.w=X.w→Y.K=X.K→Y.calm=X.calm→Y.A=X.A→∀ (i:Nat) (pins:List (Addr×Obj)) (s:Shared) (σ:L2.St) (H:Hp) (E:Value→Shared→Prop),Inv Y pins σ H s→(∀ b∈fp,FpOk Y pins H b)→tn i s.heap→J.go i H →
    wpAny (model X.prog X.w) X.A (pyNext (.ref it)) (fun r s1=>∃ u,r=some u ∧
      wpAny (model X.prog X.w) X.A (letOwnedTupleGo tg (.ref it) u) (fun _ s2=>∃ x H',Inv Y pins σ H' s2∧RelV x u∧J.yld i H x H'∧tn (i + 1) s2.heap∧∀ b∈fp,H' b=none) E s1) E s
theorem comp_block {elt iter tg:Expr} {ifs:List Expr} {cs:Scope} {pos:Pos} {N':List Str} {ncv:Nat} {js:List Nat} {g:TG} {tc:TT} {te:TE} {pins:List (Addr×Obj)} {σ:L2.St} {H2:Hp} {s2:Shared} {it:Addr} {fp:List Addr} {tn:Nat→Heap→Prop} {J:It} {Q:VK}
    {RR:Value→Addr→Result→Shared→Prop} {E:Value→Shared→Prop}
    (ok:CompOk X.env.scope X.N cs N' ncv js) (hg:∀ C s3 H ex,PG (cxC X cs N' C s3 H ex) tg g) (hif:∀ C s3 H ex,PIf (cxC X cs N' C s3 H ex) ifs tc) (helt:∀ C s3 H ex,PE (cxC X cs N' C s3 H ex) elt te)
    (I2:Inv X pins σ H2 s2) (mem:it∈fp) (obj:∀ i h,tn i h→∀ b∈fp,∃ o,h.get? b=some o∧∀ v,o.data≠.cell v) (keep:∀ i h h',tn i h→(∀ b∈fp,∀ o,h.get? b=some o→h'.get? b=some o)→tn i h')
    (item:Item1 X tg J fp it tn) (done:Ends1 X J fp it tn) (self:∀ (A:Around) (i:Nat) (s:Shared) (Q:Value→Shared→Prop) (E:Value→Shared→Prop),tn i s.heap→Q (.ref it) s→wpAny (model X.prog X.w) A (pyIter (.ref it)) Q E s)
    (st2:tn 0 s2.heap) (f2:∀ b∈fp,FpOk X pins H2 b) (W:Nat→Nat→List V→L2.St→Hp→Prop) (w0:∃ m,W 0 m [] (stC ncv js σ) H2)
    (turn:∀ i m acc σ' H',W i m acc σ' H'→(J.stop i H'∧∀ D,H' D=none→Q (.ref D) (upd H' D (.lst acc))) ∨
      (J.go i H'∧∀ x H2,J.yld i H' x H2→g x σ' H2 fun σ2 H3=>tc σ2 H3 fun b H4 =>
        if b=true then te σ2 H4 fun y H5=>acc.length < sizeLine∧∃ m',m' < m∧W (i + 1) m' (acc++[y]) σ2 H5 else ∃ m',m' < m∧W (i + 1) m' acc σ2 H4))
    (fin:∀ (D C:Addr) (acc:List V) (H':Hp) (s6:Shared),Inv X pins σ (upd H' D (.lst acc)) s6→FpOk X pins (upd H' D (.lst acc)) C→X.s₀.heap.objs.size≤C→(∃ m,s6.heap.Ns C m)→Q (.ref D) (upd H' D (.lst acc))→RR (.ref D) C (.ok .next) s6) :
    wpAny (model X.prog X.w) X.A (newList []) (fun acc s3=>wpAny (model X.prog X.w) X.A (newFunctionEnv cs X.env.globals (freeCells X.env cs.names []) [] X.env.qual none .none (some X.env)) (fun cenv s4 =>
      codeAny (model X.prog X.w) X.A (.compStart (.ListComp elt [⟨tg,iter,ifs,0⟩] cs pos) 0 (.ref it) acc {cenv with scope:=relabel cs X.env}) (RR acc cenv.locals) s4) E s3) E s2:=by
  refine wpAny_newObj_type (wpAny_newEnvC fun h1 hns hup hcl=>?_)
  obtain ⟨s3,es3⟩:∃ s3:Shared,s3={s2 with heap:=s2.heap.push {cls:=.type "list",dict:=none,data:=.seq ([]:List Value).toArray}}:=⟨_,rfl⟩
  have I3:Inv X pins σ H2 s3:=by rw [es3]; exact I2.kept (t':=s2.toks) fun b o e=>Heap.get?_push_of_some _ e
  have sz3:s3.heap.objs.size=s2.heap.objs.size + 1:=by rw [es3]; exact Heap.size_push ..
  have gD3:s3.heap.get? s2.heap.objs.size=some {cls:=.type "list",dict:=none,data:=.seq ([]:List Value).toArray}:=by rw [es3]; exact Heap.get?_push_size _ rfl
  have up3:∀ b o,s2.heap.get? b=some o→s3.heap.get? b=some o:=fun b o e=>by rw [es3]; exact Heap.get?_push_of_some _ e
  have es4:∀ tk,({s2 with heap:=h1,toks:=tk}:Shared)={s3 with heap:=h1,toks:=tk}:=fun tk=>by rw [es3]
  have hns':h1.Ns s3.heap.objs.size fun _=>none:=by rw [es3]; exact hns
  have up4:∀ b o,s3.heap.get? b=some o→h1.get? b=some o:=by rw [es3]; exact hup
  have hcl':(∀ x c,(freeCells X.env cs.names []).lookup x=some c→∃ v,s3.heap.IsCell c v)→∀ x c,(cellsFrom (s3.heap.objs.size + 1) cs.names (freeCells X.env cs.names [])).lookup x=some c→∃ v,h1.IsCell c v:=by rw [es3]; exact hcl
  generalize hD:s2.heap.objs.size=D at *
  have fD:FpOk X pins H2 D:=I2.fpOk (Nat.le_of_eq hD) (I2.hok.fresh (Nat.le_of_eq hD))
  have szD:X.s₀.heap.objs.size≤D:=hD ▸ I2.sz
  have ltf:∀ b∈fp,b < D:=fun b hb=>let ⟨o,e,_⟩:=obj 0 _ st2 b hb; hD ▸ Heap.lt_size e
  have hex:∀ b∈D::fp,FpOk X pins H2 b∧b < s3.heap.objs.size:=fun b hb=>by
    rcases List.mem_cons.mp hb with e | hb
    · subst e; exact ⟨fD,by rw [sz3]; exact Nat.lt_succ_self _⟩
    · exact ⟨f2 b hb,by rw [sz3]; exact Nat.lt_succ_of_lt (ltf b hb)⟩
  obtain ⟨C,hC⟩:∃ C,C=s3.heap.objs.size:=⟨_,rfl⟩
  have I4:∀ tk,Inv (cxC X cs N' C s3 H2 (D::fp)) [] (stC ncv js σ) H2 {s3 with heap:=h1,toks:=tk}:=fun tk=>by rw [hC]; exact comp_start I3 ok hex hns' up4 hcl'
  have DC:D≠C:=by rw [hC,sz3]; exact Nat.ne_of_lt (Nat.lt_succ_self _)
  -- the iterator's objects, and the list, in the block
  have fpY:∀ {pl:List (Addr×Obj)} {H':Hp} {b:Addr},b∈D::fp→H' b=none→(∀ p∈pl,p.1≠b)→FpOk (cxC X cs N' C s3 H2 (D::fp)) pl H' b:=fun {pl H' b} hb hn hp=>by
    obtain ⟨⟨g0,g1,g2,g3,g4,g5⟩,lt⟩:=hex b hb
    refine ⟨hn,hC ▸ Nat.ne_of_lt lt,fun z=>?_,.inl hb,fun x c e=>?_,fun p hp'=>?_⟩
    · rcases List.mem_cons.mp (I3.stkSub b z) with e | e
      · exact g1 e
      · exact g2 e
    · rcases cf_split cs.names _ _ e with q | q
      · exact g4 x c (freeCells_lookup cs.names [] (fun y hy e=>I3.ok.has y.1 (ok.free y hy e)) (fun _ _ z=>by simp at z) q)
      · exact Nat.ne_of_gt (Nat.lt_trans (hC ▸ lt) q)
    · rcases List.mem_append.mp hp' with z | z
      · exact g5 p (List.mem_append_left _ z)
      · exact hp p z
  have lp:∀ tk,codeAny (model X.prog X.w) X.A (.compLoop (.ListComp elt [⟨tg,iter,ifs,0⟩] cs pos) 0 (.ref it) (.ref D) (cxC X cs N' C s3 H2 (D::fp)).env) (RR (.ref D) C) {s3 with heap:=h1,toks:=tk}:=fun tk=>by
    obtain ⟨m0,w0⟩:=w0
    refine comp_loop (fun n s=>∃ i acc ys k σ' H',Inv (cxC X cs N' C s3 H2 (D::fp)) [] σ' H' s∧tn i s.heap∧(∀ b∈fp,H' b=none)∧H' D=none∧s.heap.get? D=some {cls:=.type "list",data:=.seq ys k}∧Vals acc ys.toList∧acc.length≤sizeLine∧W i n acc σ' H') ?_ m0
      ⟨0,[],#[],0,_,_,I4 tk,keep _ _ _ st2 fun b hb o e=>up4 b o (up3 b o e),fun b hb=>(f2 b hb).1,fD.1,up4 _ _ gD3,.nil,Nat.zero_le _,w0⟩
    rintro n s5 ⟨i,acc,ys,k,σ5,H5,I5,t5,n5,d5,g5,v5,l5,w5⟩
    have I5p:=I5.pinned (fp:=[D]) (fun b hb=>by obtain rfl:=List.mem_singleton.mp hb; exact fpY List.mem_cons_self d5 fun p hp=>nomatch hp) (fun b hb=>by obtain rfl:=List.mem_singleton.mp hb; exact ⟨_,g5,fun v z=>nomatch z⟩)
    have hpin:pinsAt [D] s5.heap=[(D,{cls:=.type "list",data:=.seq ys k})]:=by simp [pinsAt,g5]
    rw [hpin,List.nil_append] at I5p
    have fpp:∀ b∈fp,FpOk (cxC X cs N' C s3 H2 (D::fp)) [(D,{cls:=.type "list",data:=.seq ys k})] H5 b:=fun b hb=>fpY (List.mem_cons_of_mem _ hb) (n5 b hb) fun p hp=>by
      obtain rfl:=List.mem_singleton.mp hp
      exact Nat.ne_of_gt (ltf b hb)
    rcases turn i n acc σ5 H5 w5 with ⟨stop,qf⟩ | ⟨go,step⟩
    · refine thn (done (cxC X cs N' C s3 H2 (D::fp)) rfl rfl rfl rfl rfl rfl i _ s5 σ5 H5 _ I5p fpp t5 stop) fun r s6 ⟨hr,I6⟩=>?_
      subst hr
      obtain ⟨g6,d6⟩:=pinned_get I6 (List.mem_singleton.mpr rfl)
      have IX:Inv X pins σ H5 s6:=I3.call' (ch:=D::fp) I6.os I6.base I6.hok I6.bare fun b hb=>by
        obtain ⟨⟨_,e1,_,e3,e4,e5⟩,_⟩:=hex b hb
        exact ⟨e3,e1,e4,e5⟩
      obtain ⟨_,e1,e2,e3,e4,e5⟩:=fD
      have IXD:=Inv_track (o:=.lst acc) IX ⟨d6,e1,e2,e3,e4,e5⟩ szD ⟨l5,ys.toList,k,v5,by simpa using g6⟩
      have fC:FpOk X pins (upd H5 D (.lst acc)) C:=by
        have hn:(upd H5 D (.lst acc)) C=none:=by rw [upd_ne (Ne.symm DC)]; exact I6.free
        have z:=I3.fpOk (b:=C) (Nat.le_of_eq hC.symm) (I3.hok.fresh (Nat.le_of_eq hC.symm))
        exact ⟨hn,z.2⟩
      obtain ⟨m,hm,_⟩:=I6.loc
      exact fin D C acc H5 s6 IXD fC (Nat.le_trans szD (by rw [hC,sz3]; exact Nat.le_succ _)) ⟨m,hm⟩ (qf D d6)
    · refine thn (item (cxC X cs N' C s3 H2 (D::fp)) rfl rfl rfl rfl rfl i _ s5 σ5 H5 _ I5p fpp t5 go) fun r s6 ⟨u,hr,h6⟩=>?_
      subst hr
      refine thn h6 fun _ s7 ⟨x,H7,I7,r7,y7,t7,n7⟩=>?_
      obtain ⟨g7,d7⟩:=pinned_get I7 (List.mem_singleton.mpr rfl)
      have I7p:=I7.pinned (fp:=fp) (fun b hb=>fpY (List.mem_cons_of_mem _ hb) (n7 b hb) fun p hp=>by obtain rfl:=List.mem_singleton.mp hp; exact Nat.ne_of_gt (ltf b hb)) (obj _ _ t7)
      refine thn (hg _ _ _ _ _ s7 σ5 H7 x u _ I7p r7 (step x H7 y7)) fun _ s8 ⟨σ8,H8,I8,q8⟩=>?_
      refine thn (hif _ _ _ _ _ s8 σ8 H8 _ I8 q8) fun b s9 ⟨H9,I9,q9⟩=>?_
      cases b with
      | false =>
        rw [if_neg Bool.false_ne_true] at q9 ⊢
        obtain ⟨m',hm,w9⟩:=q9
        obtain ⟨g9,d9⟩:=pinned_get I9 (List.mem_append_left _ (List.mem_singleton.mpr rfl))
        refine ⟨m',hm,i + 1,acc,ys,k,σ8,H9,I9.pins_of (fun p hp=>nomatch hp),keep _ _ _ t7 fun b hb o e=>(pinned_get I9 (List.mem_append_right _ (mem_pinsAt hb e))).1,fun b hb=>?_,d9,g9,v5,l5,w9⟩
        obtain ⟨o,e,_⟩:=obj _ _ t7 b hb
        exact (pinned_get I9 (List.mem_append_right _ (mem_pinsAt hb e))).2
      | true =>
        rw [if_pos rfl] at q9 ⊢
        refine thn (helt _ _ _ _ _ s9 σ8 H9 _ I9 q9) fun yv s10 ⟨y,H10,I10,r10,lt,m',hm,w10⟩=>?_
        obtain ⟨g10,d10⟩:=pinned_get I10 (List.mem_append_left _ (List.mem_singleton.mpr rfl))
        have t10:tn (i + 1) s10.heap:=keep _ _ _ t7 fun b hb o e=>(pinned_get I10 (List.mem_append_right _ (mem_pinsAt hb e))).1
        have n10:∀ b∈fp,H10 b=none:=fun b hb=>by
          obtain ⟨o,e,_⟩:=obj _ _ t7 b hb
          exact (pinned_get I10 (List.mem_append_right _ (mem_pinsAt hb e))).2
        have I10':Inv (cxC X cs N' C s3 H2 (D::fp)) [] σ8 H10 s10:=I10.pins_of fun p hp=>nomatch hp
        have lys:ys.size=acc.length:=by have:=v5.length; simp at this; lia
        refine wpAny_list_append_plain (hsz:=by lia) (show s10.heap.PlainList D ys from ⟨k,g10⟩) fun h11 p11 sb11=>?_
        obtain ⟨_,a1,a2,a3,a4,a5⟩:=fpY (pl:=[]) (H':=H10) (b:=D) List.mem_cons_self d10 fun p hp=>nomatch hp
        obtain ⟨k11,g11⟩:=p11
        refine ⟨m',hm,i + 1,acc++[y],ys.push yv,k11,σ8,H10,I10'.turned (t':=s10.toks) (it:=D) (fun b o hb e=>(sb11.2 b hb).trans e) d10 a1 a3 a4 a5,keep _ _ _ t10 fun b hb o e=>(sb11.2 b (Nat.ne_of_lt (ltf b hb))).trans e,n10,d10,g11,?_,by rw [List.length_append,List.length_singleton]; exact lt,w10⟩
        rw [Array.toList_push]
        exact v5.append (.cons r10 .nil)
  have R1:∀ tk,codeAny (model X.prog X.w) X.A (.compStart (.ListComp elt [⟨tg,iter,ifs,0⟩] cs pos) 0 (.ref it) (.ref D) (cxC X cs N' C s3 H2 (D::fp)).env) (RR (.ref D) C) {s3 with heap:=h1,toks:=tk}:=fun tk =>
    codeAny_compStart_list (lp tk) (self _ 0 _ _ _ (keep _ _ _ st2 fun b hb o e=>up4 b o (up3 b o e)) (lp tk))
  have R2:=R1 s2.toks
  rw [← es4] at R2
  subst hD
  rw [hC,es3] at R2
  exact R2
end
section
variable {X:Cx} {pins:List (Addr×Obj)} {σ:L2.St} {H:Hp} {s:Shared} {h':Heap}
theorem Inv_turneds {t':Nat} {ch:List Addr} (I:Inv X pins σ H s) (f:∀ b∈ch,FpOk X pins H b) (k:∀ b o,b∉ch→s.heap.get? b=some o→h'.get? b=some o):Inv X pins σ H {s with heap:=h',toks:=t'}:=by
  have nt:∀ b u,H b=some u→b∉ch:=fun b u e z=>by
    have q:=(f b z).1
    rw [e] at q; cases q
  refine I.step (g':=s.gens) (d':=s.drawn) (ch:=ch) (fun b hb=>?_) (fun b o _ _ hc e _=>k b o hc e) (fun b o _ _ hc e _=>⟨o.slots,k b o hc e⟩) (fun _ _ _ _ n=>n) (fun b o hc e=>⟨o,k b o hc e⟩) (fun _ _ e=>e) (fun _ _ _ e=>e) (fun b ps e=>⟨#[],by rw [e]; simp⟩) (fun m hm=>?_) (fun b u e=>?_) I.bare
  · obtain ⟨_,f1,f2,f3,f4,f5⟩:=f b hb
    exact ⟨f3,f1,f4,f5⟩
  · obtain ⟨o,es,ep,ho,r⟩:=hm
    exact ⟨o,es,ep,k _ o (fun z=>(f _ z).2.1 rfl) ho,r⟩
  · refine (I.hok b u e).stay (fun c v hc q=>k c v ?_ q) (fun _ q=>q) fun _ _ q=>q
    rcases hc with z | z
    · rw [z]; exact nt b u e
    · exact nt c _ z
noncomputable def SqS (K:PySem.W.Frag) (H:Hp) (b:Bool) (a:Addr) (xs:List V):Prop:=if b=true then SqT K H a xs else SqL K H a xs
theorem Inv_seq {b:Bool} {a:Addr} {xs:List V} (I:Inv X pins σ H s) (h:SqS X.K H b a xs):∃ its:List Value,Vals xs its∧SeqIs s.heap b a its.toArray∧xs.length≤sizeLine:=by
  cases b with
  | false=>obtain ⟨its,r,p,z⟩:=I.list (show SqL X.K H a xs from h); exact ⟨its,r,p.isList,z⟩
  | true=>obtain ⟨its,r,p,z⟩:=I.tuple (show SqT X.K H a xs from h); exact ⟨its,r,p,z⟩
theorem Inv_seq_inj {b:Bool} {a:Addr} {xs ys:List V} (I:Inv X pins σ H s) (h:SqS X.K H b a xs) (h':SqS X.K H b a ys):xs=ys:=by
  cases b with
  | false=>exact I.list_inj (show SqL X.K H a xs from h) h'
  | true=>exact I.tuple_inj (show SqT X.K H a xs from h) h'
noncomputable def Itz (K:PySem.W.Frag) (b1 b2:Bool) (a1 a2:Addr):It :=
  ⟨fun i H=>∃ xs ys,SqS K H b1 a1 xs∧SqS K H b2 a2 ys∧i < xs.length∧i < ys.length,
  fun i H x H'=>∃ T x1 y1,x=.ref T∧H T=none∧H'=upd H T (.tup [x1,y1])∧(∀ xs,SqS K H b1 a1 xs→xs[i]?=some x1)∧(∀ ys,SqS K H b2 a2 ys→ys[i]?=some y1),
  fun i H=>∃ xs ys,SqS K H b1 a1 xs∧SqS K H b2 a2 ys∧(i=xs.length∨(i < xs.length∧i=ys.length))⟩
noncomputable def Ite (K:PySem.W.Frag) (b:Bool) (a:Addr):It :=
  ⟨fun i H=>∃ xs,SqS K H b a xs∧i < xs.length,
  fun i H x H'=>∃ T x1,x=.ref T∧H T=none∧H'=upd H T (.tup [.int i,x1])∧(∀ xs,SqS K H b a xs→xs[i]?=some x1),
  fun i H=>∃ xs,SqS K H b a xs∧i=xs.length⟩
theorem in1_handled {A:Around} (h:A.handled=none):A.in1.handled=none:=h
theorem turn_zip {P:Program} {w:World} {K:PySem.W.Frag} {es:List Expr} {kt:Nat} {pt:Pos} {b1 b2:Bool} {a1 a2 z TI TO i1 i2:Addr} (Z:∀ m,(∀ a∈[a1,a2],a < m)→(∀ a∈[z,TI,TO,i1,i2],m≤a)→ZAp z TI TO i1 i2 [i1,a1] [i2,a2])
    (m:Nat) (h1:∀ a∈[a1,a2],a < m) (h2:∀ a∈[z,TI,TO,i1,i2],m≤a) :
    Turn P w K (.Tuple es kt pt) (Itz K b1 b2 a1 a2) [z,TI,TO,i1,i2] z (fun i h=>IsZip h z TI TO .none∧IsPair h TI (.ref i1) (.ref i2)∧(∃ a b,IsPair h TO a b)∧SeqIt h b1 i1 a1 i∧SeqIt h b2 i2 a2 i) where
  mem:=by simp
  obj:=fun i h ⟨e1,e2,⟨a,b,e3⟩,e4,e5⟩ c hc=>by
    simp only [List.mem_cons,List.not_mem_nil,or_false] at hc
    rcases hc with rfl | rfl | rfl | rfl | rfl
    · exact ⟨_,e1,fun v q=>nomatch q⟩
    · exact ⟨_,e2,fun v q=>nomatch q⟩
    · exact ⟨_,e3,fun v q=>nomatch q⟩
    · exact e4.obj
    · exact e5.obj
  keep:=fun i h h' ⟨e1,e2,⟨a,b,e3⟩,e4,e5⟩ k=>⟨k z (by simp) _ e1,k TI (by simp) _ e2,⟨a,b,k TO (by simp) _ e3⟩,e4.keeps fun o e=>k i1 (by simp) o e,e5.keeps fun o e=>k i2 (by simp) o e⟩
  item:=by
    intro X hP hw hK hc i pins s σ H E I hf ⟨e1,e2,⟨a,b,e3⟩,e4,e5⟩ hg
    subst hP hw hK
    obtain ⟨xs,ys,q1,q2,l1,l2⟩:=hg
    obtain ⟨its1,v1,p1,_⟩:=Inv_seq I q1
    obtain ⟨its2,v2,p2,_⟩:=Inv_seq I q2
    have ZZ:=Z m h1 h2
    have n1:a1≠i1:=Nat.ne_of_lt (Nat.lt_of_lt_of_le (h1 a1 (by simp)) (h2 i1 (by simp)))
    have n2:a2≠i2:=Nat.ne_of_lt (Nat.lt_of_lt_of_le (h1 a2 (by simp)) (h2 i2 (by simp)))
    have D1:=drawsSeq (prog:=X.prog) (w:=X.w) (in1_handled (I.ok.hd hc)) b1 i1 a1 n1 its1.toArray
    have D2:=drawsSeq (prog:=X.prog) (w:=X.w) (in1_handled (I.ok.hd hc)) b2 i2 a2 n2 its2.toArray
    have hl1:=v1.length
    have hl2:=v2.length
    refine pyNext_zip_item ZZ D1 D2 e1 e2 e3 ⟨e4,p1⟩ ⟨e5,p2⟩ (by simp; lia) (by simp; lia) fun x y g tk px py f1 f2 f3 f4 f5 f6 f7=>⟨_,rfl,?_⟩
    refine wpAny_letOwnedTupleGo_zip (s:={s with heap:=g,toks:=tk}) f1 fun g' f8 f9=>?_
    obtain ⟨x1,hx1⟩:∃ x1,xs[i]?=some x1:=⟨xs[i],by simp [l1]⟩
    obtain ⟨y1,hy1⟩:∃ y1,ys[i]?=some y1:=⟨ys[i],by simp [l2]⟩
    obtain ⟨u1,hu1,r1⟩:=v1.get hx1
    obtain ⟨u2,hu2,r2⟩:=v2.get hy1
    have ex:x=u1:=by have z:its1.toArray[i]?=some x:=px; simp [hu1] at z; exact z.symm
    have ey:y=u2:=by have z:its2.toArray[i]?=some y:=py; simp [hu2] at z; exact z.symm
    subst ex ey
    have zlt:z≠s.heap.objs.size:=Nat.ne_of_lt (Heap.lt_size e1)
    have I1:Inv X pins σ H {s with heap:=g',toks:=tk}:=Inv_turneds (ch:=[z,TI,TO,i1,i2]) I hf fun c o hc' e=>by
      simp only [List.mem_cons,List.not_mem_nil,or_false,not_or] at hc'
      exact (f9.2 c hc'.1).trans (f7 c o hc'.1 hc'.2.2.1 hc'.2.2.2.1 hc'.2.2.2.2 e)
    have fT:=I.fpOk (b:=s.heap.objs.size) (Nat.le_refl _) (I.hok.fresh (Nat.le_refl _))
    have gT:g'.get? s.heap.objs.size=some {cls:=.type "tuple",data:=.seq #[x,y]}:=(f9.2 _ (Ne.symm zlt)).trans f5
    have I2:Inv X pins σ (upd H s.heap.objs.size (.tup [x1,y1])) {s with heap:=g',toks:=tk}:=Inv_track I1 fT I.sz ⟨by show 2≤sizeLine; decide,[x,y],.cons r1 (.cons r2 .nil),⟨_,gT,rfl,_,rfl⟩⟩
    have kz:∀ c∈[TI,TO,i1,i2],c≠z:=fun c hc'=>by
      simp only [List.mem_cons,List.not_mem_nil,or_false] at hc'
      rcases hc' with rfl | rfl | rfl | rfl
      · exact ZZ.tiz
      · exact ZZ.toz
      · exact fun q=>ZZ.z1 (q ▸ ZZ.m1)
      · exact fun q=>ZZ.z2 (q ▸ ZZ.m2)
    refine ⟨.ref s.heap.objs.size,_,I2,rfl,⟨_,x1,y1,rfl,fT.1,rfl,fun zs hz=>by rw [Inv_seq_inj I hz q1]; exact hx1,fun zs hz=>by rw [Inv_seq_inj I hz q2]; exact hy1⟩,
      ⟨f8,(f9.2 TI (kz TI (by simp))).trans (f7 TI _ ZZ.tiz ZZ.tito ZZ.ti1 ZZ.ti2 e2),⟨x,y,(f9.2 TO (kz TO (by simp))).trans f2⟩,f3.1.keeps fun o e=>(f9.2 i1 (kz i1 (by simp))).trans e,f4.1.keeps fun o e=>(f9.2 i2 (kz i2 (by simp))).trans e⟩,fun c hc'=>?_⟩
    have lt:c < s.heap.objs.size:=by
      simp only [List.mem_cons,List.not_mem_nil,or_false] at hc'
      rcases hc' with rfl | rfl | rfl | rfl | rfl
      · exact Heap.lt_size e1
      · exact Heap.lt_size e2
      · exact Heap.lt_size e3
      · exact let ⟨o,e,_⟩:=e4.obj; Heap.lt_size e
      · exact let ⟨o,e,_⟩:=e5.obj; Heap.lt_size e
    rw [upd_ne (Nat.ne_of_lt lt)]
    exact (hf c hc').1
  done:=by
    intro X hP hw hK hc i pins s σ H E I hf ⟨e1,e2,⟨a,b,e3⟩,e4,e5⟩ hg
    subst hP hw hK
    obtain ⟨xs,ys,q1,q2,hk⟩:=hg
    obtain ⟨its1,v1,p1,_⟩:=Inv_seq I q1
    obtain ⟨its2,v2,p2,_⟩:=Inv_seq I q2
    have ZZ:=Z m h1 h2
    have n1:a1≠i1:=Nat.ne_of_lt (Nat.lt_of_lt_of_le (h1 a1 (by simp)) (h2 i1 (by simp)))
    have n2:a2≠i2:=Nat.ne_of_lt (Nat.lt_of_lt_of_le (h1 a2 (by simp)) (h2 i2 (by simp)))
    have D1:=drawsSeq (prog:=X.prog) (w:=X.w) (in1_handled (I.ok.hd hc)) b1 i1 a1 n1 its1.toArray
    have D2:=drawsSeq (prog:=X.prog) (w:=X.w) (in1_handled (I.ok.hd hc)) b2 i2 a2 n2 its2.toArray
    have hl1:=v1.length
    have hl2:=v2.length
    refine pyNext_zip_end ZZ D1 D2 e1 e2 e3 ⟨e4,p1⟩ ⟨e5,p2⟩ (by simp; lia) fun g tk k=>⟨rfl,?_⟩
    exact Inv_turneds (ch:=[z,TI,TO,i1,i2]) I hf fun c o hc' e=>by
      simp only [List.mem_cons,List.not_mem_nil,or_false,not_or] at hc'
      exact k c o hc'.1 hc'.2.2.1 hc'.2.2.2.1 hc'.2.2.2.2 e
  self:=fun _ _ _ _ _ st h=>wpAny_pyIter_zip st.1 h
theorem turn_enum {P:Program} {w:World} {K:PySem.W.Frag} {es:List Expr} {kt:Nat} {pt:Pos} {b:Bool} {a e it:Addr} (h1:a≠it) (h2:a≠e) (h3:e≠it) :
    Turn P w K (.Tuple es kt pt) (Ite K b a) [e,it] e (fun i h=>(∃ old,IsEnum h e it i old)∧SeqIt h b it a i) where
  mem:=by simp
  obj:=fun i h ⟨⟨old,e1⟩,e2⟩ c hc=>by
    simp only [List.mem_cons,List.not_mem_nil,or_false] at hc
    rcases hc with rfl | rfl
    · exact ⟨_,e1,fun v q=>nomatch q⟩
    · exact e2.obj
  keep:=fun i h h' ⟨⟨old,e1⟩,e2⟩ k=>⟨⟨old,k e (by simp) _ e1⟩,e2.keeps fun o q=>k it (by simp) o q⟩
  item:=by
    intro X hP hw hK hc i pins s σ H E I hf ⟨⟨old,e1⟩,e2⟩ hg
    subst hP hw hK
    obtain ⟨xs,q1,l1⟩:=hg
    obtain ⟨its1,v1,p1,_⟩:=Inv_seq I q1
    have D1:=drawsSeq (prog:=X.prog) (w:=X.w) (in1_handled (I.ok.hd hc)) b it a h1 its1.toArray
    have hl1:=v1.length
    refine wpAny_pyNext_enum_itemD D1 e1 ⟨e2,p1⟩ (by simp; lia) h3 (by simp [h3,Ne.symm h2]) fun x g tk px f1 f2 f3 f4 f5=>⟨_,rfl,?_⟩
    refine wpAny_letOwnedTupleGo_enum (s:={s with heap:=g,toks:=tk + 1}) f1 fun g' f6 f7=>?_
    obtain ⟨x1,hx1⟩:∃ x1,xs[i]?=some x1:=⟨xs[i],by simp [l1]⟩
    obtain ⟨u1,hu1,r1⟩:=v1.get hx1
    have ex:x=u1:=by have z:its1.toArray[i]?=some x:=px; simp [hu1] at z; exact z.symm
    subst ex
    have elt:e≠s.heap.objs.size:=Nat.ne_of_lt (Heap.lt_size e1)
    have I1:Inv X pins σ H {s with heap:=g',toks:=tk + 1}:=Inv_turneds (ch:=[e,it]) I hf fun c o hc' q=>by
      simp only [List.mem_cons,List.not_mem_nil,or_false,not_or] at hc'
      exact (f7.2 c hc'.1).trans (f5 c o hc'.1 hc'.2 q)
    have fT:=I.fpOk (b:=s.heap.objs.size) (Nat.le_refl _) (I.hok.fresh (Nat.le_refl _))
    have gT:g'.get? s.heap.objs.size=some {cls:=.type "tuple",data:=.seq #[.int i tk,x]}:=(f7.2 _ (Ne.symm elt)).trans f3
    have I2:Inv X pins σ (upd H s.heap.objs.size (.tup [.int i,x1])) {s with heap:=g',toks:=tk + 1}:=Inv_track I1 fT I.sz ⟨by show 2≤sizeLine; decide,[.int i tk,x],.cons ⟨_,rfl⟩ (.cons r1 .nil),⟨_,gT,rfl,_,rfl⟩⟩
    refine ⟨.ref s.heap.objs.size,_,I2,rfl,⟨_,x1,rfl,fT.1,rfl,fun zs hz=>by rw [Inv_seq_inj I hz q1]; exact hx1⟩,⟨⟨_,by have q:=f6; exact q⟩,f2.1.keeps fun o q=>(f7.2 it (Ne.symm h3)).trans q⟩,fun c hc'=>?_⟩
    have lt:c < s.heap.objs.size:=by
      simp only [List.mem_cons,List.not_mem_nil,or_false] at hc'
      rcases hc' with rfl | rfl
      · exact Heap.lt_size e1
      · exact let ⟨o,q,_⟩:=e2.obj; Heap.lt_size q
    rw [upd_ne (Nat.ne_of_lt lt)]
    exact (hf c hc').1
  done:=by
    intro X hP hw hK hc i pins s σ H E I hf ⟨⟨old,e1⟩,e2⟩ hg
    subst hP hw hK
    obtain ⟨xs,q1,hk⟩:=hg
    obtain ⟨its1,v1,p1,_⟩:=Inv_seq I q1
    have D1:=drawsSeq (prog:=X.prog) (w:=X.w) (in1_handled (I.ok.hd hc)) b it a h1 its1.toArray
    have hl1:=v1.length
    refine wpAny_pyNext_enum_endD D1 e1 (by rw [show its1.toArray.size=i from by simp; lia]; exact ⟨e2,p1⟩) fun g k=>⟨rfl,?_⟩
    exact Inv_turneds (t':=s.toks) (ch:=[e,it]) I hf fun c o hc' q=>by
      simp only [List.mem_cons,List.not_mem_nil,or_false,not_or] at hc'
      exact k c o hc'.2 q
  self:=fun _ _ _ _ _ st h=>let ⟨_,e1⟩:=st.1; wpAny_pyIter_enum e1 h
end
section
variable {X:Cx}
theorem item_of {tg:Expr} {J:It} {fp:List Addr} {it:Addr} {tn:Nat→Heap→Prop} (hc:X.calm=true) (T:Turn X.prog X.w X.K tg J fp it tn):Item1 X tg J fp it tn :=
  fun Y e1 e2 e3 e4 e5 i pins s σ H E I f t g=>by
    have q:=T.item Y e1 e2 e3 (e4.trans hc) i pins s σ H E I f t g
    rw [e5] at q
    exact q
theorem ends_of {tg:Expr} {J:It} {fp:List Addr} {it:Addr} {tn:Nat→Heap→Prop} (hc:X.calm=true) (T:Turn X.prog X.w X.K tg J fp it tn):Ends1 X J fp it tn :=
  fun Y e1 e2 e3 e4 e5 _ i pins s σ H E I f t g=>by
    have q:=T.done Y e1 e2 e3 (e4.trans hc) i pins s σ H E I f t g
    rw [e5] at q
    exact q
variable {elt iter tg:Expr} {ifs:List Expr} {cs:Scope} {pos:Pos} {wi:TI} {g:TG} {tc:TT} {te:TE}
theorem pe_comp (N':List Str) (ncv:Nat) (js:List Nat) (hok:compOkB X.env.scope X.N cs N' ncv js=true) (hc:X.calm=true) (hi:PI X tg iter wi) (hg:∀ C s3 H ex,PG (cxC X cs N' C s3 H ex) tg g) (hif:∀ C s3 H ex,PIf (cxC X cs N' C s3 H ex) ifs tc)
    (helt:∀ C s3 H ex,PE (cxC X cs N' C s3 H ex) elt te) (hs:∀ x,foldedSetIterable iter X.env x=pure x:=by intro _; rfl):PE X (.ListComp elt [⟨tg,iter,ifs,0⟩] cs pos) (tComp wi ncv js g tc te):=by
  intro pins s σ H Q I h
  have ok:=CompOk.of hok
  rw [eval_ListComp]
  refine wpAny_comprehension_free (use:=none) rfl hs (closure_eq fun y hy e=>I.ok.has y.1 (ok.free y hy e)) ok.kind ok.locs (thn (hi pins s σ H _ I h) fun v s1 h1=>thn h1 fun itv s2 h2=>?_)
  obtain ⟨it,fp,tn,J,H2,e,I2,T,st2,f2,W,w0,turn⟩:=h2
  subst e
  refine comp_block (Q:=Q) (RR:=fun acc C=>compPost (model X.prog X.w) X.A X.xe none (EP X pins σ Q) acc C) ok hg hif helt I2 T.mem T.obj T.keep (item_of hc T) (ends_of hc T) T.self st2 f2 W w0 turn fun D C acc H' s6 IX fC zC hm q=>?_
  obtain ⟨m,hm⟩:=hm
  refine ⟨m,hm,fun h' sb=>⟨.ref D,_,?_,rfl,q⟩⟩
  exact Inv_turneds (t':=s6.toks) (ch:=[C]) IX (fun b hb=>by obtain rfl:=List.mem_singleton.mp hb; exact fC) fun b o hb e=>(sb.2 b fun z=>hb (by simp [z])).trans e
theorem ps_setC {i:Nat} {x:Str} {pos' spos:Pos} (hN:X.N.Nodup) (hi0:X.N[i]?=some x) (hx:Loc X.env.scope x) (N':List Str) (ncv:Nat) (js:List Nat) (hok:compOkB X.env.scope X.N cs N' ncv js=true) (hc:X.calm=true) (hi:PI X tg iter wi)
    (hg:∀ C s3 H ex,PG (cxC X cs N' C s3 H ex) tg g) (hif:∀ C s3 H ex,PIf (cxC X cs N' C s3 H ex) ifs tc) (helt:∀ C s3 H ex,PE (cxC X cs N' C s3 H ex) elt te)
    (hsw:swapsWith (.ListComp elt [⟨tg,iter,ifs,0⟩] cs pos) (some (.Name x pos')) spos.line X.env=pure true:=by rfl) (hs:∀ x,foldedSetIterable iter X.env x=pure x:=by intro _; rfl)
    (hf:X.fn x=true∨X.env.scope.names.lookup x=some .local:=by first | exact .inl rfl | exact .inr rfl | assumption) :
    PS X (.Assign [.Name x pos'] (.ListComp elt [⟨tg,iter,ifs,0⟩] cs pos) spos) (tAsg (tComp wi ncv js g tc te) (gName i)):=by
  intro pins s σ H D0 I h
  have ok:=CompOk.of hok
  rw [exec_Assign_Name_used _ _ _ _ hsw]
  refine wpAny_bind (wpAny_standAt (wpAny_bind ?_))
  show wpAny _ X.A (do let _←comprehension (.ListComp elt [⟨tg,iter,ifs,0⟩] cs pos) cs X.env _ (newList []) false (eval iter X.env) (some (assign (.Name x pos') X.env))) _ _ s
  refine wpAny_bind (wpAny_mono (wpAny_comprehension_free (use:=some (assign (.Name x pos') X.env)) (Q:=fun _ s'=>SP X pins D0 .next s') rfl hs (closure_eq fun y hy e=>I.ok.has y.1 (ok.free y hy e)) ok.kind ok.locs (thn (hi pins s σ H _ I h) fun v s1 h1=>thn h1 fun itv s2 h2=>?_))
    (fun _ s' hq=>wpAny_pure (wpAny_pure hq)) fun _ _ e=>e)
  obtain ⟨it,fp,tn,J,H2,e,I2,T,st2,f2,W,w0,turn⟩:=h2
  subst e
  refine comp_block (Q:=fun v H'=>gName i v σ H' D0.nx) (RR:=fun acc C=>compPost (model X.prog X.w) X.A X.xe (some (assign (.Name x pos') X.env)) (fun _ s'=>SP X pins D0 .next s') acc C) ok hg hif helt I2 T.mem T.obj T.keep (item_of hc T) (ends_of hc T) T.self st2 f2 W w0 turn fun D C acc H' s6 IX fC zC hm q=>?_
  obtain ⟨m,hm⟩:=hm
  obtain ⟨oC,esC,epC,gC,dC,rC⟩:=id hm
  have nc:∀ v,oC.data≠.cell v:=fun v z=>by rw [dC] at z; cases z
  have IXp:=IX.pinned (fp:=[C]) (fun b hb=>by obtain rfl:=List.mem_singleton.mp hb; exact fC) (fun b hb=>by obtain rfl:=List.mem_singleton.mp hb; exact ⟨oC,gC,nc⟩)
  show wpAny (model X.prog X.w) X.A (assign (.Name x pos') X.env (.ref D)) _ X.xe s6
  refine thn (pg_name hN hi0 hx hf _ s6 σ _ (.ref D) (.ref D) _ IXp rfl q) fun _ s7 ⟨σ7,H7,I7,q7⟩=>?_
  obtain ⟨g7,d7⟩:=pinned_get I7 (List.mem_append_right _ (mem_pinsAt (List.mem_singleton.mpr rfl) gC))
  refine ⟨m,⟨oC,esC,epC,g7,dC,rC⟩,fun h' sb=>⟨σ7,H7,?_,q7⟩⟩
  obtain ⟨_,c1,c2,c3,c4,c5⟩:=fC
  exact Inv_turneds (t':=s7.toks) (ch:=[C]) I7.unpinned (fun b hb=>by obtain rfl:=List.mem_singleton.mp hb; exact ⟨d7,c1,c2,c3,c4,c5⟩) fun b o hb e=>(sb.2 b fun z=>hb (by simp [z])).trans e
theorem ne_lt {a b:Nat} (h:a < b∨b < a):a≠b:=by lia
theorem nmem2 {a b c:Nat} (h1:a≠b) (h2:a≠c):(a:Addr)∉([b,c]:List Addr):=by
  simp only [List.mem_cons,List.not_mem_nil,or_false,not_or]
  exact ⟨h1,h2⟩
theorem zap_new (n a1 a2:Nat) (h1:a1 < n) (h2:a2 < n):ZAp (n + 4) (n + 2) (n + 3) n (n + 1) [n,a1] [n + 1,a2] where
  tiz:=ne_lt (a:=n + 2) (b:=n + 4) (by lia)
  toz:=ne_lt (a:=n + 3) (b:=n + 4) (by lia)
  tito:=ne_lt (a:=n + 2) (b:=n + 3) (by lia)
  ti1:=ne_lt (a:=n + 2) (b:=n) (by lia)
  ti2:=ne_lt (a:=n + 2) (b:=n + 1) (by lia)
  z1:=nmem2 (ne_lt (by lia)) (ne_lt (by lia))
  z2:=nmem2 (ne_lt (by lia)) (ne_lt (by lia))
  t1:=nmem2 (ne_lt (by lia)) (ne_lt (by lia))
  t2:=nmem2 (ne_lt (by lia)) (ne_lt (by lia))
  m1:=by simp
  m2:=by simp
  a1:=nmem2 (ne_lt (by lia)) (ne_lt (by lia))
  a2:=nmem2 (ne_lt (by lia)) (ne_lt (by lia))
theorem ge5 {n b:Nat} (h:(b:Addr)∈([n + 4,n + 2,n + 3,n,n + 1]:List Addr)):n≤b:=by
  simp only [List.mem_cons,List.not_mem_nil,or_false] at h
  rcases h with h | h | h | h | h <;> (have h':b=_:=h; rw [h']; first | exact Nat.le_add_right _ _ | exact Nat.le_refl _)
theorem ge2 {n b:Nat} (h:(b:Addr)∈([n + 1,n]:List Addr)):n≤b:=by
  simp only [List.mem_cons,List.not_mem_nil,or_false] at h
  rcases h with h | h <;> (have h':b=_:=h; rw [h']; first | exact Nat.le_add_right _ _ | exact Nat.le_refl _)
noncomputable def iZip (K:PySem.W.Frag) (ta:TA):TI:=fun σ H R=>ta σ H fun vs H1=>∃ b1 b2 a1 a2,vs=[.ref a1,.ref a2]∧(∃ xs,SqS K H1 b1 a1 xs)∧(∃ ys,SqS K H1 b2 a2 ys)∧R (Itz K b1 b2 a1 a2) H1
noncomputable def iEnum (K:PySem.W.Frag) (ta:TA):TI:=fun σ H R=>ta σ H fun vs H1=>∃ b a,vs=[.ref a]∧(∃ xs,SqS K H1 b a xs)∧R (Ite K b a) H1
theorem pi_zip {a b:Expr} {ta:TA} {p pos:Pos} {es:List Expr} {kt:Nat} {pt:Pos} (hg:Gl X "zip") (hm:X.mg "zip"=none) (ha:PA X [a,b] ta) (hs:starEach [a,b] X.env=[(false,eval a X.env),(false,eval b X.env)]:=by rfl) (hs2:starEach [b] X.env=[(false,eval b X.env)]:=by rfl) :
    PI X (.Tuple es kt pt) (.Call (.Name "zip" p) [a,b] [] pos) (iZip X.K ta):=by
  intro pins s σ H R I h
  refine Call_ (ld_blt I hg hm boot_zip (PyProof.Rows.callWith_type1 (thn (ha pos pins s σ H _ I h) fun us s1 ⟨vs,H1,I1,r1,q1⟩=>?_) (by rw [hs,hs2]) (by rw [hs2]; rfl)))
  obtain ⟨b1,b2,a1,a2,e,⟨xs,h1⟩,⟨ys,h2⟩,q⟩:=q1
  subst e
  cases r1 with
  | cons r rr =>
    cases rr with
    | cons r' rr =>
      cases rr
      obtain rfl:_=Value.ref a1:=r
      obtain rfl:_=Value.ref a2:=r'
      obtain ⟨its1,v1,p1,_⟩:=Inv_seq I1 h1
      obtain ⟨its2,v2,p2,_⟩:=Inv_seq I1 h2
      have l1:=p1.lt
      have l2:=p2.lt
      refine call_zip p1 p2 fun g f1 f2 f3 f4 f5 f6=>?_
      refine wpAny_pyIter_zip f1 ?_
      refine ⟨s1.heap.objs.size + 4,[s1.heap.objs.size + 4,s1.heap.objs.size + 2,s1.heap.objs.size + 3,s1.heap.objs.size,s1.heap.objs.size + 1],_,_,H1,rfl,I1.kept (t':=s1.toks) f6,turn_zip (b1:=b1) (b2:=b2) (a1:=a1) (a2:=a2) (fun _ _ _=>zap_new _ a1 a2 l1 l2) s1.heap.objs.size (fun a ha'=>?_) (fun a ha'=>ge5 ha'),⟨f1,f2,⟨_,_,f3⟩,f4,f5⟩,fun b hb=>I1.fpOk (ge5 hb) (I1.hok.fresh (ge5 hb)),q⟩
      simp only [List.mem_cons,List.not_mem_nil,or_false] at ha'
      rcases ha' with rfl | rfl <;> assumption
theorem pi_enum {a:Expr} {ta:TA} {p pos:Pos} {es:List Expr} {kt:Nat} {pt:Pos} (hg:Gl X "enumerate") (hm:X.mg "enumerate"=none) (ha:PA X [a] ta) (hs:starEach [a] X.env=[(false,eval a X.env)]:=by rfl) :
    PI X (.Tuple es kt pt) (.Call (.Name "enumerate" p) [a] [] pos) (iEnum X.K ta):=by
  intro pins s σ H R I h
  refine Call_ (ld_blt I hg hm boot_enumerate (PyProof.Rows.callWith_type1 (thn (ha pos pins s σ H _ I h) fun us s1 ⟨vs,H1,I1,r1,q1⟩=>?_) hs rfl))
  obtain ⟨b,l,e,⟨xs,h1⟩,q⟩:=q1
  subst e
  cases r1 with
  | cons r rr =>
    cases rr
    obtain rfl:_=Value.ref l:=r
    obtain ⟨its1,v1,p1,_⟩:=Inv_seq I1 h1
    have l1:=p1.lt
    refine call_enum p1 fun g f1 f2 f3=>?_
    refine wpAny_pyIter_enum f1 ?_
    exact ⟨s1.heap.objs.size + 1,[s1.heap.objs.size + 1,s1.heap.objs.size],_,_,H1,rfl,I1.kept (t':=s1.toks) f3,turn_enum (b:=b) (a:=l) (Nat.ne_of_lt l1) (Nat.ne_of_lt (Nat.lt_succ_of_lt l1)) (Nat.ne_of_gt (Nat.lt_succ_self _)),⟨⟨_,f1⟩,f2⟩,fun c hc=>I1.fpOk (ge2 hc) (I1.hok.fresh (ge2 hc)),q⟩
end
noncomputable def CX1 (P:Program) (w:World):CXT:=fun outer H s E e s'=>∃ x C t tb H',e=.ref x∧s'.os=s.os∧AllBare s'.gens∧Un (frs outer) [] H H' s.heap s'.heap∧HOk P w H' s'.heap∧s'.heap.get? x=some (excO C t tb)∧Tb s'.heap x tb ∧
  H' x=none∧s.heap.get? x=none∧(∀ T,tb=.ref T→H' T=none∧s.heap.get? T=none)∧E (.ref C) none H'
structure ExOk (X:Cx) (pins:List (Addr×Obj)) (H:Hp) (b:Addr):Prop where
  un:H b=none
  loc:b≠X.env.locals
  fs:b∉X.fs
  new:X.s₀.heap.get? b=none
  cell:∀ x c,X.env.cells.lookup x=some c→c≠b
  pin:∀ p∈X.pn++pins,p.1≠b
noncomputable def Takes (X:Cx) (E:XK):Prop:=∀ (pins:List (Addr×Obj)) (σ:L2.St) (H:Hp) (s:Shared) (x C t:Addr) (tb:Value),Inv X pins σ H s→s.heap.get? x=some (excO C t tb)→Tb s.heap x tb→ExOk X pins H x→(∀ T,tb=.ref T→ExOk X pins H T)→E (.ref C) none H→X.xe (.ref x) s
section
variable {X:Cx} {pins:List (Addr×Obj)} {σ:L2.St} {H H':Hp} {s:Shared}
theorem Inv_exOk {b:Addr} (I:Inv X pins σ H s) (hx:X.ex=[]) (hb:s.heap.get? b=none) (hn:H' b=none):ExOk X pins H' b:=by
  have al:∀ {c o},s.heap.get? c=some o→c≠b:=fun {c o} e z=>by rw [z,hb] at e; cases e
  refine ⟨hn,fun z=>?_,fun z=>?_,?_,fun x c e=>?_,fun p hp=>al (I.pin p hp).1⟩
  · obtain ⟨m,⟨o,_,_,e,_⟩,_⟩:=I.loc
    exact al e z.symm
  · obtain ⟨_,o,e,_⟩:=I.funs.mem z
    exact al e rfl
  · cases q:X.s₀.heap.get? b with
    | none=>rfl
    | some o =>
      obtain ⟨o',e⟩:=I.base.there b o q (by rw [hx]; exact fun z=>nomatch z)
      exact absurd rfl (al e)
  · obtain ⟨v,o,e,_⟩:=I.cell x c e
    exact al e
theorem passes_of {E:XK} (hx:X.ex=[]) (T:Takes X E):Passes (CX1 X.prog X.w) X E:=by
  intro pins σ H s e s' I h
  obtain ⟨x,C,t,tb,H',rfl,os,bare,un,hok,e1,e2,e3,e4,e5,q⟩:=h
  have I':Inv X pins σ H' s':=I.call' (ch:=[]) os un hok bare fun b z=>nomatch z
  exact T pins σ H' s' x C t tb I' e1 e2 (Inv_exOk I hx e4 e3) (fun T' z=>Inv_exOk I hx (e5 T' z).2 (e5 T' z).1) q
theorem hok_noted {P:Program} {w:World} {h h':Heap} {fs:List Addr} {x:Addr} {tb:Value} (ok:HOk P w H h) (n:Noted fs x tb h h') (hf:∀ b∈fs,H b=none) (hx:H x=none) (ht:∀ T,tb=.ref T→H T=none):HOk P w H h':=fun b u e=>by
  have go:∀ c v,H c≠none→h.get? c=some v→h'.get? c=some v:=fun c v hc q=>n.keep c v (fun z=>hc (hf c z)) (fun z=>hc (z ▸ hx)) (fun z=>hc (ht c z.symm)) q
  refine (ok b u e).stay (fun c v hc q=>go c v ?_ q) (fun _ q=>q) fun _ _ q=>q
  rcases hc with z | z
  · rw [z,e]; exact fun z=>nomatch z
  · rw [z]; exact fun z=>nomatch z
theorem noted_data {h h':Heap} {fs:List Addr} {x:Addr} {tb:Value} {b:Addr} {o:Obj} (n:Noted fs x tb h h') (h1:b≠x) (h2:Value.ref b≠tb) (e:h.get? b=some o):∃ sl,h'.get? b=some {o with slots:=sl}:=by
  by_cases z:b∈fs
  · exact n.slot b o z h1 h2 e
  · exact ⟨o.slots,n.keep b o z h1 h2 e⟩
theorem un_noted {fs fs' ex:List Addr} {H0:Hp} {h0 h h':Heap} {x:Addr} {tb:Value} (u:Un fs ex H0 H h0 h) (n:Noted fs' x tb h h') (hx:h0.get? x=none) (ht:∀ T,tb=.ref T→h0.get? T=none) (hs:∀ b o,h0.get? b=some o→b∉fs→b∉fs'):Un fs ex H0 H h0 h':=by
  have ne:∀ b o,h0.get? b=some o→b≠x∧Value.ref b≠tb:=fun b o e=>⟨fun z=>(by rw [z,hx] at e; cases e),fun z=>(by rw [ht b z.symm] at e; cases e)⟩
  refine ⟨fun b o e q hb hx'=>n.keep b o (hs b o e hb) (ne b o e).1 (ne b o e).2 (u.keep b o e q hb hx'),fun b o e q hb hx'=>?_,u.free,fun b o e hx'=>?_,u.tups,u.frzs,u.tbls⟩
  · obtain ⟨sl,z⟩:=u.slot b o e q hb hx'
    obtain ⟨sl',z'⟩:=noted_data n (ne b o e).1 (ne b o e).2 z
    exact ⟨sl',z'⟩
  · obtain ⟨o',z⟩:=u.there b o e hx'
    obtain ⟨sl',z'⟩:=noted_data n (ne b o e).1 (ne b o e).2 z
    exact ⟨_,z'⟩
theorem stack_new (I:Inv X pins σ H s) {b:Addr} {o:Obj} (e:X.s₀.heap.get? b=some o) (hb:b∉X.fs):b∉frs X.stack:=fun z=>by
  rcases List.mem_cons.mp (I.stkSub b z) with y | y
  · exact absurd (Nat.lt_of_lt_of_le (Heap.lt_size e) I.ok.above) (by rw [y]; exact Nat.lt_irrefl _)
  · exact hb y
end
theorem takes_def {P:Program} {w:World} {K:PySem.W.Frag} {mg:Str→Option Value} {base:Heap} {N:List Str} {qual:Str} {scope:Scope} {f:Addr} {cd:Value} {A:Around} {outer:List Env} {s0:Shared} {H0:Hp} {E:XK} :
    Takes (cxOf (CX1 P w) P w K mg base N qual scope f cd A outer s0 H0 E) E:=by
  intro pins σ H s x C t tb I e1 e2 fx ft q
  refine exc_noted (env:=envOfC qual scope s0.heap.objs.size f cd) (outer:=outer) (L:=s0.heap.objs.size) I.ok.frames I.stack rfl e1 e2 fun h' T n g1 g2 g3=>?_
  refine ⟨x,C,t,.ref T,H,rfl,I.os,I.bare,un_noted I.base n fx.new (fun T z=>(ft T z).new) fun b o e hb=>stack_new I e hb,hok_noted I.hok n I.stkFree fx.un fun T z=>(ft T z).un,g1,g2,fx.un,fx.new,fun T' z=>?_,q⟩
  cases z
  exact ⟨I.hok.fresh g3,Heap.get?_none_of_le (Nat.le_trans I.sz g3)⟩
theorem own_def {P:Program} {w:World} {K:PySem.W.Frag} {mg:Str→Option Value} {base:Heap} {N:List Str} {qual:Str} {scope:Scope} {f:Addr} {cd:Value} {A:Around} {outer:List Env} {s0:Shared} {H0:Hp} {E:XK} {CX:CXT} :
    PassesOwn (model P w) (cxOf CX P w K mg base N qual scope f cd A outer s0 H0 E).A (cxOf CX P w K mg base N qual scope f cd A outer s0 H0 E).env (cxOf CX P w K mg base N qual scope f cd A outer s0 H0 E).xe:=PassesOwn.leaving
abbrev bmV:List Value:=[.type "ValueError",.type "Exception",.type "BaseException",.type "object"]
noncomputable def ExcC (K:PySem.W.Frag) (C:Addr):Prop:=PySem.W.excIn K C bmV "ValueError.__new__"=true
noncomputable def mroTl (K:PySem.W.Frag) (C:Addr):List Value:=match K.lookup C with
  | some ⟨_,_,.cls cd,_⟩=>cd.mro.tail
  | _=>[]
structure ExcK (K:PySem.W.Frag) (C:Addr):Prop where
  q:ExcC K C
  ga:PySem.W.findIn K (.ref C) "__getattribute__"=some (some (.builtin "BaseException.__getattribute__"))
  gt:PySem.W.findIn K (.ref C) "__getattr__"=some none
  cl:PySem.W.findIn K (.ref C) "__class__"=some (some (.builtin "object.__class__"))
  gn:PySem.W.specialIn K (.builtin "object.__class__") "__get__"=some (some (.builtin "getset_descriptor.__get__"))
  tk:PySem.W.takesIn K (.builtin "object.__class__")=some true
  mo:PySem.W.mroIn K C (.type "object")=some true
  ci:(PySem.W.clsIn K C).isSome=true
section
variable {X:Cx} {pins pl:List (Addr×Obj)} {σ σ0:L2.St} {H:Hp} {s:Shared} {E:XK}
noncomputable def PassesAt (CX:CXT) (X:Cx) (σ:L2.St) (E:XK):Prop:=∀ (pins:List (Addr×Obj)) (H:Hp) (s:Shared) (e:Value) (s':Shared),Inv X pins σ H s→CX X.stack H s E e s'→X.xe e s'
end
section
variable {X:Cx} {CX:CXT} {k:Nat} {f C:Addr} {fd:FuncData} {ps:List Str} {sp:Sp} {dvs:List V} {ds:List Value} {E:XK} {x m:Str} {p pos apos:Pos} {e o:Expr} {es:List Expr} {ta:TE} {t:TA} {σ0:L2.St}
theorem run_fnS {pins:List (Addr×Obj)} {H:Hp} {s:Shared} {Q:VK} {us:List Value} {vs:List V} (F:FnOk X.prog X.w X.K X.mg X.base CX k f fd ps sp) (hr:Room k X.A) (hb:Binds X.K fd ps ds) (hd:Vals dvs ds) (hx:PassesAt CX X σ0 E)
    (I:Inv X pins σ0 H s) (r:Vals vs us) (h:sp (vs++dvs) H Q E):wpAny (model X.prog X.w) X.A (call (.ref f) us) (EP X pins σ0 Q) X.xe s:=by
  have r2:Vals (vs++dvs) (us++ds):=r.append hd
  have hl:(us++ds).length=ps.length:=by rw [← r2.length]; exact F.len _ _ _ _ h
  refine wpAny_call (codeAny_mono (F.run X.A X.stack s H ⟨us,[]⟩ (us++ds) (vs++dvs) Q E hr I.env0 (hb s us I.kIn hl) r2 h) fun r s' hq=>?_)
  cases r with
  | error e=>exact hx pins H s e s' I hq
  | ok fl =>
    cases fl with
    | ret u=>exact I.after hq
    | next=>exact False.elim hq
    | brk=>exact False.elim hq
    | cont=>exact False.elim hq
noncomputable def tCallS (σ0:L2.St) (sp:Sp) (dvs:List V) (E:XK) (t:TA):TE:=fun σ H Q=>σ=σ0∧t σ H fun vs H1=>sp (vs++dvs) H1 Q E
theorem pe_callS (F:FnOk X.prog X.w X.K X.mg X.base CX k f fd ps sp) (hr:Room k X.A) (hg:Gl X x) (hm:X.mg x=some (.ref f)) (hk:PySem.W.keepIn X.K (.ref f)=true) (hb:Binds X.K fd ps ds) (hd:Vals dvs ds) (hx:PassesAt CX X σ0 E)
    (ha:PA X (e::es) t) (hdb:(x == ("__debug__":Str))=false:=by decide) (he:starEach (e::es) X.env=(false,eval e X.env)::starEach es X.env:=by rfl) (hpl:(backTo pos (starEach es X.env)).any (·.1)=false:=by rfl) :
    PE X (.Call (.Name x p) (e::es) [] pos) (tCallS σ0 sp dvs E t):=by
  intro pins s σ H Q I h
  obtain (⟨rfl,h⟩):=h
  refine wpAny_Call_Name_kw (ld_glob I hg hm ?_ hdb)
  refine PySem.W.callWith_K (h₀:=X.base) I.ok.mod.kin hk (thn (ha pos pins s σ H _ I h) fun us s1 ⟨vs,H1,I1,r,q⟩=>⟨I1.kIn,?_⟩) he hpl
  exact run_fnS F hr hb hd hx I1 r q
theorem run_makeS {pins:List (Addr×Obj)} {H:Hp} {s:Shared} {Q:VK} {us:List Value} {vs:List V} (M:Mk X.K C f) (F:FnOk X.prog X.w X.K X.mg X.base CX k f fd ps sp) (hr:Room (k + 1) X.A) (hb:Binds X.K fd ps ds) (hd:Vals dvs ds)
    (hx:PassesAt CX X σ0 E) (I:Inv X pins σ0 H s) (r:Vals vs us)
    (h:∀ x dx,H x=none→H dx=none→dx≠x→sp (.ref x::(vs++dvs)) (upd (upd H dx (.own x)) x (.ins C dx [])) (fun v H2=>v=.non∧Q (.ref x) H2) E) :
    wpAny (model X.prog X.w) X.A (call (.ref C) us) (EP X pins σ0 Q) X.xe s:=by
  have hq:=h (s.heap.objs.size + 1) s.heap.objs.size (I.hok.fresh (Nat.le_succ _)) (I.hok.fresh (Nat.le_refl _)) (Nat.ne_of_lt (Nat.lt_succ_self _))
  have I2:=Inv.made (C:=C) I
  have r2:Vals (V.ref (s.heap.objs.size + 1)::(vs++dvs)) (Value.ref (s.heap.objs.size + 1)::(us++ds)):=.cons rfl (r.append hd)
  have hl:(Value.ref (s.heap.objs.size + 1)::us++ds).length=ps.length:=by
    have e:=r2.length
    rw [F.len _ _ _ _ hq] at e
    exact e.symm
  refine wpAny_call (make_map (f:=f) I.kIn M.makes M.init (beq_iff_eq.mp M.fn) (codeAny_mono (F.run _ X.stack _ _ ⟨Value.ref (s.heap.objs.size + 1)::us,[]⟩ (Value.ref (s.heap.objs.size + 1)::(us++ds)) _ _ E (hr.make C us [])
    (I2.env0.make C us []) (hb _ (Value.ref (s.heap.objs.size + 1)::us) I2.kIn hl) r2 hq) fun r s' hq'=>?_))
  cases r with
  | error e=>exact hx pins _ _ e s' I2 hq'
  | ok fl =>
    cases fl with
    | ret u =>
      obtain ⟨v,H',I3,rv,ev,q3⟩:=I2.after hq'
      subst ev
      exact ⟨rv,⟨V.ref (s.heap.objs.size + 1),H',I3,rfl,q3⟩⟩
    | next=>exact False.elim hq'
    | brk=>exact False.elim hq'
    | cont=>exact False.elim hq'
noncomputable def tMakeS (σ0:L2.St) (C:Addr) (sp:Sp) (dvs:List V) (E:XK) (t:TA):TE:=fun σ H Q=>σ=σ0∧t σ H fun vs H1=>∀ x dx,H1 x=none→H1 dx=none→dx≠x →
  sp (.ref x::(vs++dvs)) (upd (upd H1 dx (.own x)) x (.ins C dx [])) (fun v H2=>v=.non∧Q (.ref x) H2) E
theorem pe_makeS (M:Mk X.K C f) (F:FnOk X.prog X.w X.K X.mg X.base CX k f fd ps sp) (hr:Room (k + 1) X.A) (hg:Gl X x) (hm:X.mg x=some (.ref C)) (hb:Binds X.K fd ps ds) (hd:Vals dvs ds) (hx:PassesAt CX X σ0 E)
    (ha:PA X (e::es) t) (hdb:(x == ("__debug__":Str))=false:=by decide) (he:starEach (e::es) X.env=(false,eval e X.env)::starEach es X.env:=by rfl) (hpl:(backTo pos (starEach es X.env)).any (·.1)=false:=by rfl) :
    PE X (.Call (.Name x p) (e::es) [] pos) (tMakeS σ0 C sp dvs E t):=by
  intro pins s σ H Q I h
  obtain (⟨rfl,h⟩):=h
  refine wpAny_Call_Name_kw (ld_glob I hg hm ?_ hdb)
  refine PySem.W.callWith_K (h₀:=X.base) I.ok.mod.kin M.kp (thn (ha pos pins s σ H _ I h) fun us s1 ⟨vs,H1,I1,r,q⟩=>⟨I1.kIn,?_⟩) he hpl
  exact run_makeS M F hr hb hd hx I1 r q
end
structure FunD (K:PySem.W.Frag) (x qual:Str) (st:Stmt) (f:Addr) (fd:FuncData):Prop where
  ex:∃ (oc:Value) (od:Option Addr) (dV kV doc pm:Value) (an:Option Addr) (cdv ct:Value) (osl:Array (Option Value)),
    fd=PySem.W.fnOf x qual (defArgs st) (defBody st) (defScope st) dV kV doc pm an cdv ct∧K.lookup f=some ⟨oc,od,.func fd,osl⟩∧PySem.W.codeIn K cdv qual=true
  kp:PySem.W.keepIn K (.ref f)=true
theorem funD_mk {K:PySem.W.Frag} {x qual:Str} {st:Stmt} {f:Addr} {oc:Value} {od an:Option Addr} {osl:Array (Option Value)} {dV kV doc pm cdv ct:Value} (l:K.lookup f=some ⟨oc,od,.func (PySem.W.fnOf x qual (defArgs st) (defBody st) (defScope st) dV kV doc pm an cdv ct),osl⟩)
    (c:PySem.W.codeIn K cdv qual=true) (k:PySem.W.keepIn K (.ref f)=true):FunD K x qual st f (PySem.W.fnOf x qual (defArgs st) (defBody st) (defScope st) dV kV doc pm an cdv ct):=⟨⟨oc,od,dV,kV,doc,pm,an,cdv,ct,osl,rfl,l,c⟩,k⟩
structure RoomH (k:Nat) (A:Around) (x:Addr):Prop where
  hd:A.handled=some (.ref x)
  dp:A.depth + 3 * k + 5 < recursionLimit
  un:A.units + 16 * k + 200 < cLine
structure FnOkH (P:Program) (w:World) (K:PySem.W.Frag) (mg:Str→Option Value) (base:Heap) (k:Nat) (f:Addr) (fd:FuncData) (ps:List Str) (sp:Addr→Addr→Sp):Prop where
  len:∀ x C vs H Q E,sp x C vs H Q E→vs.length=ps.length
  run:∀ (x C t T:Addr) (A:Around) (outer:List Env) (s:Shared) (H:Hp) (args:Args) (us:List Value) (vs:List V) (Q:VK),RoomH k A x→Env0 P w K mg base A outer s H→s.heap.get? x=some (excO C t (.ref T))→H x=none→BindsTo s fd args (ps.zip us)→Vals vs us→sp x C vs H Q E0 →
    codeAny (model P w) A (.call (.ref f) args) (CR CX0 outer P w H s Q E0) s
theorem walksSeq {prog:Program} {w:World} {A:Around} (hh:A.handled=none) (b:Bool) (I ax:Addr) (hne:ax≠I) (items:Array Value) :
    Walks prog w A I [I,ax] [I] items.size (fun i v=>items[i]?=some v) (fun i h=>SeqIt h b I ax i∧SeqIs h b ax items):=by
  cases b with
  | false=>exact Walks.list hh I ax hne items
  | true =>
    exact {
      sub:=fun b hb=>by simp at hb; simp [hb]
      frame:=fun _ _ _ st hk=>⟨st.1.keeps fun o e=>hk I (by simp) o e,st.2.keeps fun o e=>hk ax (by simp) o e⟩
      item:=fun i s Q E hi st hQ=>by
        refine wpAny_pyNext_tuple_item (show s.heap.IsTupleIter I ax i from st.1) (show s.heap.IsTuple ax items from st.2) (x:=items[i]) (by simp [hi]) fun h' a sb=>?_
        exact hQ _ h' s.toks (by simp [hi]) ⟨a,st.2.keeps fun o e=>sb.extBut ax o hne e⟩ fun b o hb e=>sb.extBut b o (fun z=>hb (by simp [z])) e
      done:=fun s Q E st hQ=>wpAny_pyNext_tuple_end hh (show s.heap.IsTupleIter I ax items.size from st.1) (show s.heap.IsTuple ax items from st.2) (by simp) fun h' he=>hQ h' s.toks fun b o hb e=>he b o (fun z=>hb (by simp [z])) e
      self:=fun _ _ _ _ st hQ=>wpAny_pyIter_tupleiter (show Heap.IsTupleIter _ I ax _ from st.1) hQ}
theorem vals_int {ns:List Int} {us:List Value} (r:Vals (ns.map V.int) us) {i:Nat} {v:Value} (h:us.toArray[i]?=some v):∃ t,v=.int (ns.getD i 0) t:=by
  have h':us[i]?=some v:=by simpa using h
  have lt:i < us.length:=(List.getElem?_eq_some_iff.mp h').1
  have hl:=r.length
  rw [List.length_map] at hl
  obtain ⟨u,hu,ru⟩:=r.get (i:=i) (x:=.int (ns.getD i 0)) (by rw [List.getElem?_map,List.getElem?_eq_getElem (by lia),List.getD_eq_getElem?_getD,List.getElem?_eq_getElem (by lia)]; rfl)
  rw [hu] at h'
  cases h'
  exact ru
theorem vals_bl {bs:List Bool} {us:List Value} (r:Vals (bs.map V.bl) us) {i:Nat} {v:Value} (h:us.toArray[i]?=some v):v=.bool (bs.getD i true):=by
  have h':us[i]?=some v:=by simpa using h
  have lt:i < us.length:=(List.getElem?_eq_some_iff.mp h').1
  have hl:=r.length
  rw [List.length_map] at hl
  obtain ⟨u,hu,ru⟩:=r.get (i:=i) (x:=.bl (bs.getD i true)) (by rw [List.getElem?_map,List.getElem?_eq_getElem (by lia),List.getD_eq_getElem?_getD,List.getElem?_eq_getElem (by lia)]; rfl)
  rw [hu] at h'
  cases h'
  exact ru
theorem all_getD (bs:List Bool):(List.range bs.length).all (fun i=>bs.getD i true)=bs.all id:=by
  rw [Bool.eq_iff_iff,List.all_eq_true,List.all_eq_true]
  constructor
  · intro h x hx
    obtain ⟨i,hi,e⟩:=List.getElem_of_mem hx
    have:=h i (List.mem_range.mpr hi)
    rw [List.getD_eq_getElem?_getD,List.getElem?_eq_getElem hi] at this
    rw [← e]; exact this
  · intro h i hi
    rw [List.getD_eq_getElem?_getD,List.getElem?_eq_getElem (List.mem_range.mp hi)]
    exact h _ (List.getElem_mem _)
theorem best_le (val:Nat→Int) (bt:Nat→Nat→Bool) (hb:∀ i j,bt i j=decide (val i < val j)):∀ k,argBest bt k≤k∧∀ j,j≤k→val (argBest bt k)≤val j
  | 0=>⟨Nat.le_refl _,fun j hj=>by
    have:j=0:=by lia
    subst this; exact Int.le_refl _⟩
  | k + 1=>by
    obtain ⟨h1,h2⟩:=best_le val bt hb k
    show (if bt (k + 1) (argBest bt k) then k + 1 else argBest bt k)≤k + 1∧∀ j,j≤k + 1→val (if bt (k + 1) (argBest bt k) then k + 1 else argBest bt k)≤val j
    rw [hb]
    by_cases c:val (k + 1) < val (argBest bt k)
    · simp only [c,decide_true,if_true]
      refine ⟨Nat.le_refl _,fun j hj=>?_⟩
      by_cases e:j=k + 1
      · rw [e]; exact Int.le_refl _
      · have:=h2 j (by lia); lia
    · simp only [c,decide_false,Bool.false_eq_true,if_false]
      refine ⟨by lia,fun j hj=>?_⟩
      by_cases e:j=k + 1
      · rw [e]; lia
      · exact h2 j (by lia)
theorem best_ge (val:Nat→Int) (bt:Nat→Nat→Bool) (hb:∀ i j,bt i j=decide (val j < val i)):∀ k,argBest bt k≤k∧∀ j,j≤k→val j≤val (argBest bt k):=fun k=>by
  have h:=best_le (fun i=>- val i) bt (fun i j=>by rw [hb]; congr 1; apply propext; constructor <;> intro h <;> lia) k
  exact ⟨h.1,fun j hj=>by have:=h.2 j hj; lia⟩
section
variable {X:Cx}
noncomputable def rAll (K:PySem.W.Frag):List V→Hp→VK→Prop:=fun xs H Q=>∃ (b:Bool) (a:Addr) (bs:List Bool),xs=[.ref a]∧SqS K H b a (bs.map V.bl)∧Q (.bl (bs.all id)) H
noncomputable def rMin (K:PySem.W.Frag):List V→Hp→VK→Prop:=fun xs H Q=>∃ (b:Bool) (a:Addr) (ns:List Int),xs=[.ref a]∧SqS K H b a (ns.map V.int)∧ns≠[]∧∀ m,m∈ns→(∀ k∈ns,m≤k)→Q (.int m) H
noncomputable def rMax (K:PySem.W.Frag):List V→Hp→VK→Prop:=fun xs H Q=>∃ (b:Bool) (a:Addr) (ns:List Int),xs=[.ref a]∧SqS K H b a (ns.map V.int)∧ns≠[]∧∀ m,m∈ns→(∀ k∈ns,k≤m)→Q (.int m) H
theorem one_val {a:Addr} {us:List Value} (r:Vals [V.ref a] us):us=[Value.ref a]:=by
  cases r with
  | cons r rr =>
    cases rr
    obtain rfl:_=Value.ref a:=r
    rfl
theorem fp_lt {s:Shared} {a:Addr} (h:a < s.heap.objs.size) (o:Obj):∀ b∈[s.heap.objs.size,a],b < (s.heap.push o).objs.size:=fun b hb=>by
  rw [Heap.size_push]
  simp only [List.mem_cons,List.not_mem_nil,or_false] at hb
  rcases hb with e | e
  · rw [e]; exact Nat.lt_succ_self _
  · rw [e]; exact Nat.lt_succ_of_lt h
theorem call_all (hc:X.calm=true):CallR X (.builtin "all") (rAll X.K):=by
  intro pins s σ H xs us Q I r h
  obtain ⟨b,a,bs,rfl,hq,q⟩:=h
  obtain rfl:=one_val r
  obtain ⟨its,v,p,_⟩:=Inv_seq I hq
  have lt:=p.lt
  refine call_all_walk (pyIter_seq p ⟨s.heap.objs.size,[s.heap.objs.size,a],[s.heap.objs.size],its.toArray.size,_,_,fun i=>bs.getD i true,rfl,walksSeq (in1_handled (I.ok.hd hc)) b _ a (Nat.ne_of_lt lt) its.toArray,⟨.new (Heap.get?_push_size _ rfl),p.keeps fun o e=>Heap.get?_push_of_some _ e⟩,fun i u s' Q' E' hu hQ=>?_,fun h' tk k=>?_⟩)
  · rw [vals_bl v hu]; exact wpAny_truthy_bool hQ
  have hl:=v.length
  rw [List.length_map] at hl
  rw [List.size_toArray,← hl,all_getD]
  exact ⟨.bl _,H,I.kept (t':=tk) (fun c o e=>k c o (fun z=>absurd (Heap.lt_size e) (by simp at z; rw [z]; exact Nat.lt_irrefl _)) (Heap.get?_push_of_some _ e)),rfl,q⟩
theorem getD_mem {ns:List Int} {i:Nat} (h:i < ns.length):ns.getD i 0∈ns:=by
  rw [List.getD_eq_getElem?_getD,List.getElem?_eq_getElem h]; exact List.getElem_mem _
theorem getD_of_mem {ns:List Int} {k:Int} (h:k∈ns):∃ i,i < ns.length∧ns.getD i 0=k:=by
  obtain ⟨i,hi,e⟩:=List.getElem_of_mem h
  exact ⟨i,hi,by rw [List.getD_eq_getElem?_getD,List.getElem?_eq_getElem hi]; exact e⟩
theorem call_minS (hc:X.calm=true):CallR X (.builtin "min") (rMin X.K):=by
  intro pins s σ H xs us Q I r h
  obtain ⟨b,a,ns,rfl,hq,ne,q⟩:=h
  obtain rfl:=one_val r
  obtain ⟨its,v,p,_⟩:=Inv_seq I hq
  have lt:=p.lt
  have hl:=v.length
  rw [List.length_map] at hl
  have pos:0 < ns.length:=List.length_pos_iff.mpr ne
  refine call_min_walk (pyIter_seq p ⟨s.heap.objs.size,[s.heap.objs.size,a],[s.heap.objs.size],its.toArray.size,_,_,fun i j=>decide (ns.getD i 0 < ns.getD j 0),rfl,walksSeq (in1_handled (I.ok.hd hc)) b _ a (Nat.ne_of_lt lt) its.toArray,⟨.new (Heap.get?_push_size _ rfl),p.keeps fun o e=>Heap.get?_push_of_some _ e⟩,fp_lt lt _,by simp; lia,fun i j vi vj s' Q' E' hi hj hQ=>?_,fun u h' tk hu k=>?_⟩)
  · obtain ⟨t1,rfl⟩:=vals_int v hi
    obtain ⟨t2,rfl⟩:=vals_int v hj
    exact lt_int hQ
  obtain ⟨t,rfl⟩:=vals_int v hu
  obtain ⟨b1,b2⟩:=best_le (fun i=>ns.getD i 0) _ (fun _ _=>rfl) (its.toArray.size - 1)
  rw [List.size_toArray] at b1 b2 ⊢
  refine ⟨.int _,H,I.kept (t':=tk) (fun c o e=>k c o (fun z=>absurd (Heap.lt_size e) (by simp at z; rw [z]; exact Nat.lt_irrefl _)) (Heap.get?_push_of_some _ e)),⟨t,rfl⟩,q _ (getD_mem (by lia)) fun m hm=>?_⟩
  obtain ⟨i,hi,e⟩:=getD_of_mem hm
  rw [← e]
  exact b2 i (by lia)
theorem call_maxS (hc:X.calm=true):CallR X (.builtin "max") (rMax X.K):=by
  intro pins s σ H xs us Q I r h
  obtain ⟨b,a,ns,rfl,hq,ne,q⟩:=h
  obtain rfl:=one_val r
  obtain ⟨its,v,p,_⟩:=Inv_seq I hq
  have lt:=p.lt
  have hl:=v.length
  rw [List.length_map] at hl
  have pos:0 < ns.length:=List.length_pos_iff.mpr ne
  refine call_max_walk (pyIter_seq p ⟨s.heap.objs.size,[s.heap.objs.size,a],[s.heap.objs.size],its.toArray.size,_,_,fun i j=>decide (ns.getD j 0 < ns.getD i 0),rfl,walksSeq (in1_handled (I.ok.hd hc)) b _ a (Nat.ne_of_lt lt) its.toArray,⟨.new (Heap.get?_push_size _ rfl),p.keeps fun o e=>Heap.get?_push_of_some _ e⟩,fp_lt lt _,by simp; lia,fun i j vi vj s' Q' E' hi hj hQ=>?_,fun u h' tk hu k=>?_⟩)
  · obtain ⟨t1,rfl⟩:=vals_int v hi
    obtain ⟨t2,rfl⟩:=vals_int v hj
    exact gt_int hQ
  obtain ⟨t,rfl⟩:=vals_int v hu
  obtain ⟨b1,b2⟩:=best_ge (fun i=>ns.getD i 0) _ (fun _ _=>rfl) (its.toArray.size - 1)
  rw [List.size_toArray] at b1 b2 ⊢
  refine ⟨.int _,H,I.kept (t':=tk) (fun c o e=>k c o (fun z=>absurd (Heap.lt_size e) (by simp at z; rw [z]; exact Nat.lt_irrefl _)) (Heap.get?_push_of_some _ e)),⟨t,rfl⟩,q _ (getD_mem (by lia)) fun m hm=>?_⟩
  obtain ⟨i,hi,e⟩:=getD_of_mem hm
  rw [← e]
  exact b2 i (by lia)
noncomputable def clsV:V→Option Value
  | .ty n=>some (.type n)
  | .ref a=>some (.ref a)
  | _=>none
theorem clsV_rel {x:V} {c u:Value} (h:clsV x=some c) (r:RelV x u):u=c:=by
  cases x with
  | ty n=>cases h; exact r
  | ref a=>cases h; exact r
  | _=>cases h
noncomputable def rIs (K:PySem.W.Frag):List V→Hp→VK→Prop:=fun xs H Q=>∃ x cv t c b,xs=[x,cv]∧clsV cv=some c∧TyOf K H x t∧PySem.W.kitOne K t c=some b∧Q (.bl b) H
theorem call_is:CallR X (.builtin "isinstance") (rIs X.K):=by
  intro pins s σ H xs us Q I r h
  obtain ⟨x,cv,t,c,b,rfl,e,ty,k,q⟩:=h
  cases r with
  | cons r rr =>
    cases rr with
    | cons r' rr =>
      cases rr
      have:=clsV_rel e r'
      subst this
      exact isinst_ok I r ty k fun tk=>⟨.bl b,H,I.tok tk,rfl,q⟩
end
noncomputable def excP (C x:Addr):Heap→Prop:=fun h=>∃ t T,h.get? x=some (excO C t (.ref T))
section
variable {X:Cx}
theorem ints_are:∀ {ns:List Int} {us:List Value},Vals (ns.map V.int) us→IntsAre us ns
  | [],_,r=>by cases r; exact .nil
  | n::ns,_,r=>by
    rw [List.map_cons] at r
    cases r with
    | cons h t=>obtain ⟨t',rfl⟩:=(show ∃ t,_=Value.int n t from h); exact .cons n t' (ints_are t)
end
noncomputable def Src (K:PySem.W.Frag) (mg:Str→Option Value) (x:Str) (st:Stmt) (ps:List Str):Prop:=∃ f fd,FunD K x x st f fd∧Binds K fd ps []∧mg x=some (.ref f)
noncomputable def DefOk (P:Program) (w:World) (K:PySem.W.Frag) (mg:Str→Option Value) (base:Heap) (x:Str) (k:Nat) (ps:List Str) (sp:Sp):Prop :=
  ∃ f fd,FnOk P w K mg base (CX1 P w) k f fd ps sp∧Binds K fd ps []∧PySem.W.keepIn K (.ref f)=true∧mg x=some (.ref f)
section
variable {P:Program} {w:World} {K:PySem.W.Frag} {mg:Str→Option Value} {base:Heap} {x:Str} {ps:List Str} {sp:Sp}
noncomputable abbrev cxD (P:Program) (w:World) (K:PySem.W.Frag) (mg:Str→Option Value) (base:Heap) (N:List Str) (x:Str) (st:Stmt) (f:Addr) (cd:Value) (A:Around) (outer:List Env) (s:Shared) (H:Hp) (E:XK):Cx :=
  cxOf (CX1 P w) P w K mg base N x (defScope st) f cd A outer s H E
theorem def_ok {st:Stmt} {N:List Str} {k:Nat} (S:Src K mg x st ps) (sc:FnScope N ps (defScope st)) (len:∀ vs H Q E,sp vs H Q E→vs.length=ps.length)
    (hbody:∀ (f:Addr) (cdv:Value) (A:Around) (outer:List Env) (s:Shared) (H:Hp) (vs:List V) (Q:VK) (E:XK),Room k (A.deeper (envOfC x (defScope st) s.heap.objs.size f cdv))→sp vs H Q E →
      ∃ t,PSs (cxD P w K mg base N x st f cdv A outer s H E) (defBody st) t∧t {nx:=fun _ H'=>Q .non H',rt:=Q} (start N vs) H):DefOk P w K mg base x (k + 1) ps sp:=by
  obtain ⟨f,fd,F,b,m⟩:=S
  refine ⟨f,fd,?_,b,F.kp,m⟩
  obtain ⟨oc,od,dV,kV,doc,pm,an,cdv,ct,osl,rfl,lk,hcd⟩:=F.ex
  exact fn_of lk hcd sc len fun A outer s H vs Q E hr hsp=>hbody f cdv A outer s H vs Q E hr hsp
end
section
variable {X:Cx} {k:Nat} {ps:List Str} {sp:Sp} {E:XK} {x:Str} {p pos:Pos} {e:Expr} {es:List Expr} {t:TA} {σ0:L2.St}
theorem pe_callDS (d:DefOk X.prog X.w X.K X.mg X.base x k ps sp) (hr:Room k X.A) (hg:Gl X x) (hx:PassesAt (CX1 X.prog X.w) X σ0 E) (ha:PA X (e::es) t) (hdb:(x == ("__debug__":Str))=false:=by decide)
    (he:starEach (e::es) X.env=(false,eval e X.env)::starEach es X.env:=by rfl) (hpl:(backTo pos (starEach es X.env)).any (·.1)=false:=by rfl):PE X (.Call (.Name x p) (e::es) [] pos) (tCallS σ0 sp [] E t):=by
  obtain ⟨f,fd,F,b,kp,m⟩:=d
  exact pe_callS F hr hg m kp b .nil hx ha hdb he hpl
end
section
variable {X:Cx} {tg:Expr}
noncomputable def Its (K:PySem.W.Frag) (b:Bool) (a:Addr):It:=if b=true then Itt K a else Itl K a
noncomputable def iSq (K:PySem.W.Frag) (tl:TE):TI:=fun σ H R=>tl σ H fun x H1=>∃ b a,x=.ref a∧(∃ xs,SqS K H1 b a xs)∧R (Its K b a) H1
theorem pi_sq {l:Expr} {tl:TE} (hl:PE X l tl):PI X tg l (iSq X.K tl):=by
  intro pins s σ H R I h
  refine thn (hl pins s σ H _ I h) fun v s1 ⟨x,H1,I1,r1,q1⟩=>?_
  obtain ⟨b,a,e,⟨xs,hq⟩,q⟩:=q1
  subst e
  cases r1
  cases b with
  | false =>
    obtain ⟨its,rv,p,hz⟩:=I1.list (show SqL X.K H1 a xs from hq)
    refine wpAny_pyIter_list p.isList ?_
    refine ⟨s1.heap.objs.size,[s1.heap.objs.size],_,_,H1,rfl,I1.kept (t':=s1.toks) fun b o e=>Heap.get?_push_of_some _ e,turn_list a _,⟨_,Heap.get?_push_size _ rfl,rfl,rfl⟩,fun b hb=>?_,q⟩
    obtain rfl:=List.mem_singleton.mp hb
    exact I1.fpOk (Nat.le_refl _) (I1.hok.fresh (Nat.le_refl _))
  | true =>
    obtain ⟨its,rv,p,hz⟩:=I1.tuple (show SqT X.K H1 a xs from hq)
    refine wpAny_pyIter_tuple (show s1.heap.IsTuple a its.toArray from p) ?_
    refine ⟨s1.heap.objs.size,[s1.heap.objs.size],_,_,H1,rfl,I1.kept (t':=s1.toks) fun b o e=>Heap.get?_push_of_some _ e,turn_tuple a _,⟨_,Heap.get?_push_size _ rfl,rfl,rfl⟩,fun b hb=>?_,q⟩
    obtain rfl:=List.mem_singleton.mp hb
    exact I1.fpOk (Nat.le_refl _) (I1.hok.fresh (Nat.le_refl _))
end
theorem Its.go {K:PySem.W.Frag} {b:Bool} {a:Addr} {i:Nat} {H:Hp} {xs:List V} (h:SqS K H b a xs) (hi:i < xs.length):(Its K b a).go i H:=by
  cases b with
  | false=>exact ⟨xs,xs[i],h,by simp [hi]⟩
  | true=>exact ⟨xs,xs[i],h,by simp [hi]⟩
theorem Its.stop {K:PySem.W.Frag} {b:Bool} {a:Addr} {H:Hp} {xs:List V} (h:SqS K H b a xs):(Its K b a).stop xs.length H:=by
  cases b with
  | false=>exact ⟨xs,h,Nat.le_refl _⟩
  | true=>exact ⟨xs,h,Nat.le_refl _⟩
theorem Its.yld {K:PySem.W.Frag} {b:Bool} {a:Addr} {i:Nat} {H H':Hp} {xs:List V} {x:V} (h:SqS K H b a xs) (y:(Its K b a).yld i H x H'):H'=H∧xs[i]?=some x:=by
  cases b with
  | false=>exact ⟨y.1,y.2 xs h⟩
  | true=>exact ⟨y.1,y.2 xs h⟩
noncomputable def MakeOk (P:Program) (w:World) (K:PySem.W.Frag) (mg:Str→Option Value) (base:Heap) (x:Str) (C:Addr) (k:Nat) (ps:List Str) (sp:Sp):Prop :=
  ∃ f fd,Mk K C f∧FnOk P w K mg base (CX1 P w) k f fd ps sp∧Binds K fd ps []∧mg x=some (.ref C)
section
variable {X:Cx} {k:Nat} {ps:List Str} {sp:Sp} {E:XK} {x:Str} {C:Addr} {p pos:Pos} {e:Expr} {es:List Expr} {t:TA} {σ0:L2.St}
theorem pe_makeCS (d:MakeOk X.prog X.w X.K X.mg X.base x C k ps sp) (hr:Room (k + 1) X.A) (hg:Gl X x) (hx:PassesAt (CX1 X.prog X.w) X σ0 E) (ha:PA X (e::es) t) (hdb:(x == ("__debug__":Str))=false:=by decide)
    (he:starEach (e::es) X.env=(false,eval e X.env)::starEach es X.env:=by rfl) (hpl:(backTo pos (starEach es X.env)).any (·.1)=false:=by rfl):PE X (.Call (.Name x p) (e::es) [] pos) (tMakeS σ0 C sp [] E t):=by
  obtain ⟨f,fd,M,F,b,m⟩:=d
  exact pe_makeS M F hr hg m b .nil hx ha hdb he hpl
end
section
variable {X:Cx} (K:PySem.W.Frag)
noncomputable def rLen (K:PySem.W.Frag):List V→Hp→VK→Prop:=fun xs H Q=>∃ p ys,xs=[.ref p]∧(SqL K H p ys∨SqT K H p ys)∧Q (.int ys.length) H
noncomputable def rTup (K:PySem.W.Frag):List V→Hp→VK→Prop:=fun xs H Q=>∃ p ys,xs=[.ref p]∧((SqL K H p ys∧∀ l,H l=none→Q (.ref l) (upd H l (.tup ys)))∨(SqT K H p ys∧Q (.ref p) H))
theorem k_len (h:X.K=K:=by rfl):CallR X (.builtin "len") (rLen K):=h ▸ call_len_seq
theorem k_tuple (h:X.K=K:=by rfl):CallR X (.type "tuple") (rTup K):=h ▸ call_tuple_of
theorem k_all (c:X.calm=true:=by rfl) (h:X.K=K:=by rfl):CallR X (.builtin "all") (rAll K):=h ▸ call_all c
theorem k_min (c:X.calm=true:=by rfl) (h:X.K=K:=by rfl):CallR X (.builtin "min") (rMin K):=h ▸ call_minS c
theorem k_max (c:X.calm=true:=by rfl) (h:X.K=K:=by rfl):CallR X (.builtin "max") (rMax K):=h ▸ call_maxS c
theorem k_isi (h:X.K=K:=by rfl):CallR X (.builtin "isinstance") (rIs K):=h ▸ call_is
noncomputable def rIxQ (K:PySem.W.Frag):R2:=fun x y H Q=>∃ b p xs i v,x=.ref p∧y=.int i∧SqS K H b p xs∧atI xs i=some v∧Q v H
theorem k_ix (h:X.K=K:=by rfl):IxR X (rIxQ K):=by
  subst h
  intro value slice pins s σ H x y v u Q I rx ry hq hs
  obtain ⟨b,p,xs,i,z,e1,e2,hq,ha,q⟩:=hq
  cases b with
  | false=>exact ix_list value slice pins s σ H x y v u Q I rx ry ⟨p,xs,i,z,e1,e2,hq,ha,q⟩ hs
  | true=>exact ix_tup value slice pins s σ H x y v u Q I rx ry ⟨p,xs,i,z,e1,e2,hq,ha,q⟩ hs
theorem k_fld {e:Expr} {f:Str} {pos:Pos} {ta:TE} (he:PE X e ta) (hb:attributeBase e f X.env (eval e X.env)=eval e X.env:=by rfl) (h:X.K=K:=by rfl):PE X (.Attribute e f pos) (tFld K ta f):=h ▸ pe_fld he hb
theorem k_sq {tg l:Expr} {tl:TE} (hl:PE X l tl) (h:X.K=K:=by rfl):PI X tg l (iSq K tl):=h ▸ pi_sq hl
theorem k_zip {a b:Expr} {ta:TA} {p pos:Pos} {es:List Expr} {kt:Nat} {pt:Pos} (hg:Gl X "zip") (hm:X.mg "zip"=none) (ha:PA X [a,b] ta) (hs:starEach [a,b] X.env=[(false,eval a X.env),(false,eval b X.env)]:=by rfl) (hs2:starEach [b] X.env=[(false,eval b X.env)]:=by rfl) (h:X.K=K:=by rfl) :
    PI X (.Tuple es kt pt) (.Call (.Name "zip" p) [a,b] [] pos) (iZip K ta):=h ▸ pi_zip hg hm ha hs hs2
theorem k_enum {a:Expr} {ta:TA} {p pos:Pos} {es:List Expr} {kt:Nat} {pt:Pos} (hg:Gl X "enumerate") (hm:X.mg "enumerate"=none) (ha:PA X [a] ta) (hs:starEach [a] X.env=[(false,eval a X.env)]:=by rfl) (h:X.K=K:=by rfl) :
    PI X (.Tuple es kt pt) (.Call (.Name "enumerate" p) [a] [] pos) (iEnum K ta):=h ▸ pi_enum hg hm ha hs
end
end L3
end
section
set_option maxHeartbeats 4000000
namespace L3
open PySem PySem.Spec PyProof.Rows L2 M3
noncomputable def DefOkH (P:Program) (w:World) (K:PySem.W.Frag) (mg:Str→Option Value) (base:Heap) (x:Str) (k:Nat) (ps:List Str) (sp:Addr→Addr→Sp):Prop :=
  ∃ f fd,FnOkH P w K mg base k f fd ps sp∧Binds K fd ps []∧PySem.W.keepIn K (.ref f)=true∧mg x=some (.ref f)
end L3
end
section
namespace L2
open PySem PySem.Spec PyProof.Rows
noncomputable def rlen (lo hi st:Int):Nat:=if lo < hi then ((hi - lo - 1) / st + 1).toNat else 0
noncomputable def ItrS (lo st:Int) (n:Nat):It:=⟨fun i _=>i < n,fun i H x H'=>H'=H∧x=.int (lo + i * st),fun i _=>n≤i⟩
theorem turn_rangeS {P:Program} {w:World} {K:PySem.W.Frag} {tg:Expr} (it:Addr) (lo st:Int) (n:Nat):Turn P w K tg (ItrS lo st n) [it] it (fun i h=>IsRangeIter h it (lo + (i:Nat) * st) ((n:Int) - (i:Nat)) st) where
  mem:=by simp
  obj:=fun i h st b hb=>by
    have e:b=it:=by simpa using hb
    subst e
    exact ⟨_,st,fun v z=>by
      have z':Data.fields _=Data.cell v:=z
      cases z'⟩
  keep:=fun i h h' st k=>k it (by simp) _ st
  item:=by
    intro X hP hw hK hc i pins s σ H E I hf st' hg
    subst hP hw hK
    obtain ⟨f0,f1,f2,f3,f4,f5⟩:=hf it (by simp)
    have W:=Walks.range (prog:=X.prog) (w:=X.w) (I.ok.hd hc) it lo st n
    refine W.item i s _ _ hg st' fun v h' tk hv st'' kk=>?_
    obtain ⟨t,rfl⟩:=hv
    have I1:Inv X pins σ H {s with heap:=h',toks:=tk}:=I.turned (fun b o hb e=>kk b o (by simpa using hb) e) f0 f1 f3 f4 f5
    exact ⟨_,rfl,go_of (s:={s with heap:=h',toks:=tk}) (n:="range_iterator") st'' rfl rfl (by decide) ⟨.int (lo + i * st),H,I1,⟨t,rfl⟩,⟨rfl,rfl⟩,st'',fun b hb=>(hf b hb).1⟩⟩
  done:=by
    intro X hP hw hK hc i pins s σ H E I hf st' hg
    subst hP hw hK
    obtain ⟨f0,f1,f2,f3,f4,f5⟩:=hf it (by simp)
    exact wpAny_pyNext_range_end (I.ok.hd hc) st' (by have:n≤i:=hg; lia) fun h' eb=>⟨rfl,I.turned (t':=s.toks) (fun b o hb e=>eb b o hb e) f0 f1 f3 f4 f5⟩
  self:=fun _ _ _ _ _ st h=>wpAny_pyIter_rangeiter st h
theorem rsz_pos {lo hi st:Int} (h:0 < st):Builtin.Range.rangeSize lo hi st=rlen lo hi st:=by
  unfold Builtin.Range.rangeSize rlen
  rw [if_pos h]
  split
  · have:=Int.ediv_nonneg (a:=hi - lo - 1) (b:=st) (by lia) (by lia)
    lia
  · rfl
theorem small_st {a b c:Int} (h1:-(2 ^ 30)≤a) (h2:a < 2 ^ 30) (h3:-(2 ^ 30)≤b) (h4:b < 2 ^ 30) (h5:0 < c) (h6:c < 2 ^ 30):Builtin.Range.small a b c=true:=by
  have e:Builtin.Range.rangeSize a b c=rlen a b c:=rsz_pos h5
  have el:(rlen a b c:Int)≤2 ^ 31:=by
    unfold rlen
    split
    · have h7:0≤(b - a - 1) / c:=Int.ediv_nonneg (by lia) (by lia)
      have h8:(b - a - 1) / c≤b - a - 1:=Int.ediv_le_self _ (by lia)
      lia
    · simp
  unfold Builtin.Range.small
  rw [e]
  have f:∀ x:Int,-(2 ^ 62)≤x→x < 2 ^ 62→Builtin.Range.rangeFitsLong x=true:=by
    intro x k1 k2
    unfold Builtin.Range.rangeFitsLong
    simp
    lia
  rw [f a (by lia) (by lia),f b (by lia) (by lia),f c (by lia) (by lia),f _ (by lia) (by lia),if_pos h5,f (b + (c - 1)) (by lia) (by lia)]
  simp
section
variable {X:Cx} {tg:Expr}
theorem range_itS {pins:List (Addr×Obj)} {σ:St} {H:Hp} {s:Shared} {R:It→Hp→Prop} {E:Value→Shared→Prop} {lo hi st:Int} {t u v:Tok} {tk:Nat} (I:Inv X pins σ H s) (h1:-(2 ^ 30)≤lo) (h2:lo < 2 ^ 30) (h3:-(2 ^ 30)≤hi) (h4:hi < 2 ^ 30) (h5:0 < st) (h6:st < 2 ^ 30)
    (q:R (ItrS lo st (rlen lo hi st)) H):wpAny (model X.prog X.w) X.A (pyIter (.ref s.heap.objs.size)) (PIE X pins σ tg R) E {s with heap:=s.heap.push {cls:=.type "range",data:=.fields #[.int lo t,.int hi u,.int st v]},toks:=tk}:=by
  refine wpAny_pyIter_range (IsRange.new ..) (small_st h1 h2 h3 h4 h5 h6) ?_
  have I1:Inv X pins σ H {s with heap:=s.heap.push {cls:=.type "range",data:=.fields #[.int lo t,.int hi u,.int st v]},toks:=tk}:=I.kept fun b o e=>Heap.get?_push_of_some _ e
  refine ⟨(s.heap.push {cls:=.type "range",data:=.fields #[.int lo t,.int hi u,.int st v]}).objs.size,[(s.heap.push {cls:=.type "range",data:=.fields #[.int lo t,.int hi u,.int st v]}).objs.size],_,_,H,rfl,
    I1.kept (t':=tk) fun b o e=>Heap.get?_push_of_some _ e,turn_rangeS _ lo st (rlen lo hi st),?_,fun b hb=>?_,q⟩
  · have e1:lo + ((0:Nat):Int) * st=lo:=by simp
    have e2:((rlen lo hi st:Nat):Int) - ((0:Nat):Int)=Builtin.Range.rangeSize lo hi st:=by rw [rsz_pos h5]; simp
    show IsRangeIter _ _ (lo + ((0:Nat):Int) * st) (((rlen lo hi st:Nat):Int) - ((0:Nat):Int)) st
    rw [e1,e2]
    exact Heap.get?_push_size _ rfl
  · have e:b=(s.heap.push {cls:=.type "range",data:=.fields #[.int lo t,.int hi u,.int st v]}).objs.size:=by simpa using hb
    subst e
    exact I1.fpOk (Nat.le_refl _) (I1.hok.fresh (Nat.le_refl _))
noncomputable def iRng3 (ta:TA):TI:=fun σ H R=>ta σ H fun vs H1=>∃ i j k:Int,vs=[.int i,.int j,.int k]∧(-(2 ^ 30)≤i∧i < 2 ^ 30∧-(2 ^ 30)≤j∧j < 2 ^ 30∧0 < k∧k < 2 ^ 30)∧R (ItrS i k (rlen i j k)) H1
theorem pi_range3 {a b c:Expr} {ta:TA} {p pos:Pos} (hg:Gl X "range") (hm:X.mg "range"=none) (ha:PA X [a,b,c] ta) (hs:starEach [a,b,c] X.env=[(false,eval a X.env),(false,eval b X.env),(false,eval c X.env)]:=by rfl) (hs2:starEach [b,c] X.env=[(false,eval b X.env),(false,eval c X.env)]:=by rfl) :
    PI X tg (.Call (.Name "range" p) [a,b,c] [] pos) (iRng3 ta):=by
  intro pins s σ H R I h
  refine Call_ (ld_blt I hg hm boot_range (PyProof.Rows.callWith_type1 (thn (ha pos pins s σ H _ I h) fun us s1 ⟨vs,H1,I1,r1,q1⟩=>?_) (by rw [hs,hs2]) (by rw [hs2]; rfl)))
  obtain ⟨i,j,k,e,⟨q1,q2,q3,q4,q5,q6⟩,q⟩:=q1
  subst e
  cases r1 with
  | cons r rr =>
    cases rr with
    | cons r' rr =>
      cases rr with
      | cons r'' rr =>
        cases rr
        obtain ⟨t,rfl⟩:=r
        obtain ⟨t',rfl⟩:=r'
        obtain ⟨t'',rfl⟩:=r''
        exact call_range_3 (by lia) (range_itS I1 q1 q2 q3 q4 q5 q6 q) (.inl (PyProof.noPylong_small (by lia)))
noncomputable def rExtendR:V→List V→Hp→VK→Prop:=fun x vs H Q=>∃ l b xs zs,x=.ref l∧vs=[.ref b]∧H l=some (.lst xs)∧Rd H b (.lst zs)∧xs.length + zs.length≤sizeLine∧Q .non (upd H l (.lst (xs++zs)))
theorem mt_extendR:MtM X "list.extend" rExtendR:=by
  intro pins s σ H x vs v us Q I rx rv h
  obtain ⟨l,b,xs,zs,rfl,rfl,hH,hB,hz,q⟩:=h
  cases rx
  obtain ⟨u,rfl,ru⟩:=rv.one
  cases ru
  obtain ⟨z,its,n,r,hl,e⟩:=I.lstM hH
  obtain ⟨z2,its2,n2,r2,e2⟩:=hB.ok I.hok
  have hl2:=r2.length
  have hsz:its.toArray.size + its2.toArray.size≤sizeLine:=by rw [List.size_toArray,List.size_toArray]; lia
  have hlong:¬ (!its.toArray.isEmpty&&Builtin.List.listTooLong (its.toArray.size + its2.toArray.size))=true:=by
    rw [notLongL hsz,Bool.and_false]
    exact Bool.false_ne_true
  refine call_meets F.slot_list_extend ⟨_,e,rfl⟩ F.entry_list_extend (F.args_list_extend_2 _ _)
    (AutoSeq1.list_extend_list_list_0 l its.toArray n b its2.toArray n2 hlong (by rw [List.size_toArray]; lia) (by lia)) ⟨e,e2,?_⟩
  refine ⟨.non,_,I.lset (its':=its++its2) hH e (by simp) (r.append r2) ?_,rfl,q⟩
  rw [List.length_append]
  lia
end
end L2
end
section
namespace L3
open PySem PySem.Spec PyProof.Rows L2 M3
section
variable {X:Cx} {k:Nat} {E:XK} {x m:Str} {p pos apos:Pos} {e o:Expr} {es:List Expr} {ta:TE} {t:TA} {σ0:L2.St}
noncomputable def MethOk (P:Program) (w:World) (K:PySem.W.Frag) (mg:Str→Option Value) (base:Heap) (k:Nat) (C:Addr) (m:Str) (sp:Sp):Prop :=
  Cls K C∧∃ f fd ps,Meth K C m f∧FnOk P w K mg base (CX1 P w) k f fd ps sp∧Binds K fd ps []
structure Mk0 (K:PySem.W.Frag) (C:Addr):Prop where
  makes:PySem.W.makesIn K C=true
  init:PySem.W.findIn K (.ref C) "__init__"=some (some (.builtin "object.__init__"))
  kp:PySem.W.keepIn K (.ref C)=true
theorem run_make0 {C:Addr} {pins:List (Addr×Obj)} {σ:L2.St} {H:Hp} {s:Shared} {Q:VK} (M:Mk0 X.K C) (I:Inv X pins σ H s)
    (h:∀ x dx,H x=none→H dx=none→dx≠x→Q (.ref x) (upd (upd H dx (.own x)) x (.ins C dx []))):wpAny (model X.prog X.w) X.A (call (.ref C) []) (EP X pins σ Q) X.xe s:=by
  have hq:=h (s.heap.objs.size + 1) s.heap.objs.size (I.hok.fresh (Nat.le_succ _)) (I.hok.fresh (Nat.le_refl _)) (Nat.ne_of_lt (Nat.lt_succ_self _))
  have I2:=Inv.made (C:=C) I
  have Y:=PySem.W.makes_of (M:=model X.prog X.w) I.kIn M.makes
  have hx:((s.heap.push PySem.W.emptyDict).push (PySem.W.instObj C s.heap.objs.size)).get? (s.heap.objs.size + 1)=some (PySem.W.instObj C s.heap.objs.size):=by
    have:=Heap.get?_push_size (s.heap.push PySem.W.emptyDict) (o:=PySem.W.instObj C s.heap.objs.size) rfl
    rwa [Heap.size_push] at this
  refine wpAny_call (make_map0 I.kIn M.makes M.init (fun self=>PySem.W.Looks.of_pure (PySem.W.oi_bind self)) ?_)
  have t1:PySem.W.Looks (model X.prog X.w) ((s.heap.push PySem.W.emptyDict).push (PySem.W.instObj C s.heap.objs.size)) (typeOf (.ref (s.heap.objs.size + 1))) (.ref C):=(PySem.W.Looks.ld hx).andThen .now
  have t2:PySem.W.Looks (model X.prog X.w) ((s.heap.push PySem.W.emptyDict).push (PySem.W.instObj C s.heap.objs.size)) (isInstance (.ref (s.heap.objs.size + 1)) (.type "object")) true:=t1.andThen (Y.top.keeps fun b o e=>Heap.get?_push_of_some _ (Heap.get?_push_of_some _ e))
  refine codeAny_call_builtin PySem.W.oi_plain PySem.W.entry_oi (@PySem.W.check_slot (model X.prog X.w) _ _ _ "object.__init__" "object" "__init__" (.ref (s.heap.objs.size + 1)) [] [] _ PySem.W.oi_kind PySem.W.oi_split t2 (PySem.W.oi_args (.ref (s.heap.objs.size + 1))) ?_)
  rw [PySem.W.oi_run]
  exact wpAny_pure (And.intro rfl ⟨V.ref (s.heap.objs.size + 1),_,I2,rfl,hq⟩)
noncomputable def tMake0 (C:Addr):TE:=fun σ H Q=>∀ x dx,H x=none→H dx=none→dx≠x→Q (.ref x) (upd (upd H dx (.own x)) x (.ins C dx []))
theorem pe_make00 {C:Addr} (M:Mk0 X.K C) (hg:Gl X x) (hm:X.mg x=some (.ref C)) (hdb:(x == ("__debug__":Str))=false):PE X (.Call (.Name x p) [] [] pos) (tMake0 C):=by
  intro pins s σ H Q I h
  refine wpAny_Call_Name_kw (ld_glob I hg hm ?_ hdb)
  exact PySem.W.callWith_K0 I.kIn M.kp (run_make0 M I h)
end
end L3
end
section
set_option maxHeartbeats 4000000
namespace L3
open PySem PySem.Spec PyProof.Rows L2 M3
end L3
end
section
set_option maxHeartbeats 4000000
namespace L3
open PySem PySem.Spec PyProof.Rows L2 M3
noncomputable def tabF (P:Addr) (lp:Pos) (oc:Option Addr):Heap→Prop:=fun h=>∃ ps:Array Value,h.get? P=some (PySem.W.tabObj ps)∧TriplesOk ps.toList∧codeAmong lp ps.toList=oc.map Value.ref
noncomputable def codF (c':Addr) (q:Str):Heap→Prop:=fun h=>h.CodeRec (.ref c') q
structure LamB (mg:Str→Option Value) (base:Heap) (c P:Addr):Prop where
  code:PySem.W.CodeHd base c P
  bmain:∃ bm ob,mg "__builtins__"=some (.ref bm)∧bm≠builtinsNs∧base.get? bm=some ob∧ob.cls=.type "module"∧ob.dict=some builtinsNs∧ob.data=.plain
end L3
end
section
set_option maxHeartbeats 4000000
namespace L3
open PySem PySem.Spec PyProof.Rows L2 M3
end L3
end
section
set_option maxHeartbeats 4000000
namespace L3
open PySem PySem.Spec PyProof.Rows L2 M3
section
variable {prog:Program} {w:World} {A:Around} {h:Heap} {g:Array GenState} {d:Drawn} {t:Nat} {os:OsState} {a:Addr} {its:Array Value} {n:Nat}
noncomputable abbrev lstO (its:Array Value) (n:Nat):Obj:={cls:=.type "list",data:=.seq its n}
end
end L3
end
section
set_option maxHeartbeats 4000000
namespace L3
open PySem PySem.Spec PyProof.Rows L2 M3
noncomputable def hBnd:Nat:=64
theorem hashInt_small:∀ a < hBnd,hashInt (a:Int)=(a:Int):=by decide +kernel
noncomputable def smallK (k:Int×Int):Prop:=(0≤k.1∧k.1 < 64)∧0≤k.2∧k.2 < 64
end L3
end
section
set_option maxHeartbeats 4000000
namespace L3
open PySem PySem.Spec PyProof.Rows L2 M3
end L3
end
section
set_option maxHeartbeats 4000000
namespace M3
open PySem
open Sem (wp)
end M3
namespace L3
open PySem PySem.Spec PyProof.Rows L2 M3
end L3
end
section
set_option maxHeartbeats 4000000
namespace L3
open PySem PySem.Spec PyProof.Rows L2 M3
end L3
end
section
namespace L3
open PySem L2 PyProof.Rows
end L3
end
section
namespace L3
open PySem PySem.Spec PyProof.Rows L2 M3 PySem.Builtin PySem.Builtin.Str
section
variable {X:Cx} {o e:Expr} {apos cpos:Pos} {td ty:TE}
noncomputable def rIntS:List V→Hp→VK→Prop:=fun xs H Q=>∃ x n,xs=[.str x]∧PySem.intText? x=some n∧x.length≤640∧Q (.int n) H
theorem call_intS:CallR X (.type "int") rIntS:=by
  intro pins s σ H xs us Q I r h
  obtain ⟨x,n,rfl,hn,hl,q⟩:=h
  cases r with
  | cons r rr =>
    cases rr
    obtain ⟨t,rfl⟩:=(show ∃ t,_=Value.str x t from r)
    exact PySem.W.KIN.call_text hn hl ⟨.int n,H,I.tok _,⟨_,rfl⟩,q⟩
end
end L3
end
section
set_option maxHeartbeats 4000000
namespace L3
open PySem PySem.Spec PyProof.Rows L2 M3
end L3
end
section
namespace MP
open PySem
noncomputable def belGo (xs:List Nat) (j:Nat):Nat→Nat→Nat→Nat
  | 0,lo,_=>lo
  | fuel + 1,lo,hi=>if lo < hi then (if xs.getD ((lo + hi) / 2) j < j then belGo xs j fuel ((lo + hi) / 2 + 1) hi else belGo xs j fuel lo ((lo + hi) / 2)) else lo
noncomputable def belL (xs:List Nat) (j:Nat):Nat:=belGo xs j xs.length 0 xs.length
noncomputable def prbGo (mask:Nat) (place:List Nat) (hs:List Int) (h:Int):Nat→Nat→Nat→Nat→Nat→Option Nat
  | 0,_,_,_,_=>none
  | fuel + 1,j,more,i,pt =>
    let b:=belL place j
    if place[b]?=some j then
      (if (hs[b]?).getD 0=h then none else
      if more > 0 then prbGo mask place hs h fuel (j + 1) (more - 1) i pt else
      let l:=SetTable.leap mask i pt
      prbGo mask place hs h fuel l.1 (SetTable.runEnd mask l.1 - l.1) l.1 l.2)
    else some j
noncomputable def putL {α:Type} (xs:List α) (p:Nat) (x:α):List α:=xs.take p++x::xs.drop p
structure LT where
  hs:List Int
  mask:Nat
  place:List Nat
  moves:Nat
noncomputable def layOne (s:LT) (h:Int):Option LT :=
  if s.mask % 2 == 0 then none else
  let i:=SetTable.bits h % (s.mask + 1)
  match prbGo s.mask s.place s.hs h (10 * SetTable.turns s.mask) i (SetTable.runEnd s.mask i - i) i (SetTable.bits h) with
  | some j =>
    let p:=belL s.place j
    let pl:=putL s.place p j
    let hs1:=putL s.hs p h
    if pl.length=hs1.length∧pl.length≤s.mask∧hs1.length≤100000 then
      if pl.length * 5≥s.mask * 3 then
        (if SetTable.sizeAbove (SetTable.grown hs1.length) > sizeLine then none else
        let m:=SetTable.sizeAbove (SetTable.grown hs1.length) - 1
        match SetTable.layClean m hs1.toArray with
        | some owner =>
          let live:=(List.range (m + 1)).filterMap fun j=>(owner.getD j none).map (j,·)
          let hs2:=(live.map (·.2)).filterMap (hs1[·]?)
          if hs2.length=hs1.length∧live.length=hs1.length∧live.length≤m then some ⟨hs2,m,live.map (·.1),(if s.mask == 7&&m == 7 then s.moves else s.moves + 1)⟩ else none
        | none=>none)
      else some ⟨hs1,s.mask,pl,s.moves⟩
    else none
  | none=>none
noncomputable def layFrom (l:List Int):Option LT:=l.foldlM layOne ⟨[],7,[],0⟩
noncomputable def layB (hs:List Int):Bool:=match layFrom hs with
  | some st=>st.hs.length == hs.length
  | none=>false
noncomputable def hashK (k:Int×Int):Int:=reduceHash (Builtin.Tuple.tupleHashOf [k.1,k.2])
noncomputable def layP (ks:List (Int×Int)):Bool:=layB (ks.map hashK)
end MP
end
section
set_option maxHeartbeats 4000000
namespace L3
open PySem PySem.Spec PyProof.Rows L2 M3
noncomputable def layA (hs:Array Int) (t:SetTable) (h:Int):Option (Array Int×SetTable) :=
  if t.gaveWay then none else
  match t.probe (fun i=>(hs[i]?).getD 0) h (t.probeStart h) with
  | some (.empty j none) =>
    let t1:=(t.put j).1
    let hs1:=SetTable.insertAt hs (t.put j).2 h
    if !(t1.fits hs1.size&&t1.plain) || decide (hs1.size > 100000) then none else
    if t1.tooFull then
      if decide (SetTable.sizeAbove (SetTable.grown (hs.size + 1)) > sizeLine) then none else
      match t1.relaid hs1 (SetTable.grown (hs.size + 1)) with
      | some (t2,order) =>
        let hs2:=order.filterMap (hs1[·]?)
        if hs2.size == hs1.size&&t2.fits hs2.size&&t2.plain then some (hs2,t2) else none
      | none=>none
    else some (hs1,t1)
  | _=>none
noncomputable abbrev tOfL (s:MP.LT) (led:Bool):SetTable:=⟨s.mask,s.place.toArray,#[],0,led,s.moves,true⟩
theorem bel_go (xs:List Nat) (j:Nat):∀ (fuel lo hi:Nat),SetTable.below.go xs.toArray j fuel lo hi=MP.belGo xs j fuel lo hi
  | 0,lo,hi=>rfl
  | fuel + 1,lo,hi=>by
    have i1:=bel_go xs j fuel ((lo + hi) / 2 + 1) hi
    have i2:=bel_go xs j fuel lo ((lo + hi) / 2)
    have g:xs.toArray.getD ((lo + hi) / 2) j=xs.getD ((lo + hi) / 2) j:=by simp
    unfold SetTable.below.go MP.belGo
    dsimp only
    rw [i1,i2,g]
theorem bel_eq (xs:List Nat) (j:Nat):SetTable.below xs.toArray j=MP.belL xs j:=by
  unfold SetTable.below MP.belL
  rw [bel_go]; simp
theorem slot_eq (s:MP.LT) (led:Bool) (j:Nat):(tOfL s led).slot j=if s.place[MP.belL s.place j]?=some j then .live (MP.belL s.place j) else .empty:=by
  unfold SetTable.slot
  simp only [tOfL,bel_eq]
  by_cases c:s.place[MP.belL s.place j]?=some j
  · simp [c]
  · simp [c,SetTable.has]
theorem prb_eq (s:MP.LT) (led:Bool) (h:Int):∀ (fuel j more i pt r:Nat),MP.prbGo s.mask s.place s.hs h fuel j more i pt=some r →
    SetTable.probe.go (tOfL s led) (fun i=>(s.hs.toArray[i]?).getD 0) h fuel ⟨j,more,i,pt,none⟩=some (.empty r none)
  | 0,j,more,i,pt,r,e=>by cases e
  | fuel + 1,j,more,i,pt,r,e=>by
    unfold MP.prbGo at e
    unfold SetTable.probe.go
    simp only [slot_eq]
    dsimp only at e
    by_cases c:s.place[MP.belL s.place j]?=some j
    · rw [if_pos c] at e
      rw [if_pos c]
      dsimp only
      by_cases d:(s.hs[MP.belL s.place j]?).getD 0=h
      · rw [if_pos d] at e; cases e
      · rw [if_neg d] at e
        have d':((s.hs.toArray[MP.belL s.place j]?).getD 0 == h)=false:=by simpa using d
        rw [d']
        simp only [Bool.false_eq_true,if_false]
        unfold SetTable.advance
        by_cases m:more > 0
        · rw [if_pos m] at e
          simp only [m,if_true]
          exact prb_eq s led h fuel _ _ _ _ r e
        · rw [if_neg m] at e
          simp only [m,if_false]
          exact prb_eq s led h fuel _ _ _ _ r e
    · rw [if_neg c] at e
      cases e
      rw [if_neg c]
theorem putL_eq {α:Type} (xs:List α) (p:Nat) (x:α):SetTable.insertAt xs.toArray p x=(MP.putL xs p x).toArray:=by
  unfold SetTable.insertAt MP.putL
  apply Array.ext'
  simp [List.extract_eq_take_drop,List.take_of_length_le]
set_option tactic.hygienic true in
theorem lay_eq (s s':MP.LT) (led:Bool) (h:Int) (e:MP.layOne s h=some s'):layA s.hs.toArray (tOfL s led) h=some (s'.hs.toArray,tOfL s' led):=by
  unfold MP.layOne at e
  split at e
  · cases e
  next hm =>
  dsimp only at e
  split at e
  next j hj =>
    have hp:=prb_eq s led h _ _ _ _ _ _ hj
    unfold layA
    rw [if_neg (by simpa [SetTable.gaveWay] using hm)]
    have hp':(tOfL s led).probe (fun i=>(s.hs.toArray[i]?).getD 0) h ((tOfL s led).probeStart h)=some (.empty j none):=hp
    rw [hp']
    have hput:(tOfL s led).put j=(⟨s.mask,(MP.putL s.place (MP.belL s.place j) j).toArray,#[],0,led,s.moves,true⟩,MP.belL s.place j):=by
      unfold SetTable.put
      simp [tOfL,bel_eq,putL_eq,SetTable.has]
    dsimp only
    rw [hput]
    dsimp only
    rw [putL_eq]
    generalize hpl:MP.putL s.place (MP.belL s.place j) j=pl at *
    generalize hh1:MP.putL s.hs (MP.belL s.place j) h=hs1 at *
    split at e
    next hc =>
      obtain ⟨c1,c2,c3⟩:=hc
      have ft:SetTable.fits ⟨s.mask,pl.toArray,#[],0,led,s.moves,true⟩ hs1.toArray.size=true:=by
        simp [SetTable.fits,SetTable.fill,c1]; lia
      rw [if_neg (by rw [ft]; simp; exact c3)]
      have tf:SetTable.tooFull ⟨s.mask,pl.toArray,#[],0,led,s.moves,true⟩=decide (pl.length * 5≥s.mask * 3):=by
        simp [SetTable.tooFull,SetTable.fill]
      rw [tf]
      have hl1:s.hs.toArray.size + 1=hs1.length:=by
        rw [← hh1]
        unfold MP.putL
        simp only [List.length_append,List.length_take,List.length_cons,List.length_drop,List.size_toArray]
        lia
      rw [hl1]
      split at e
      next hf =>
        rw [if_pos (decide_eq_true hf)]
        split at e
        · cases e
        next hz =>
        rw [if_neg (by simpa using hz)]
        unfold SetTable.relaid SetTable.laid
        dsimp only
        split at e
        next owner ho =>
          rw [ho]
          simp only [Option.bind_eq_bind,Option.bind_some,Option.pure_def]
          generalize hm2:SetTable.sizeAbove (SetTable.grown hs1.length) - 1=m2 at *
          generalize hlv:(List.range (m2 + 1)).filterMap (fun j=>(owner.getD j none).map (j,·))=live at *
          have ef:(Array.filterMap (fun x=>hs1.toArray[x]?) (live.map (·.2)).toArray)=((live.map (·.2)).filterMap (hs1[·]?)).toArray:=by
            apply Array.ext'; simp
          split at e
          next hc =>
            obtain ⟨k1,k2,k3⟩:=hc
            show (if ((Array.filterMap (fun x=>hs1.toArray[x]?) (live.map (·.2)).toArray).size == hs1.toArray.size&&SetTable.fits ⟨m2,(live.map (·.1)).toArray,#[],0,led,SetTable.movedTo ⟨s.mask,pl.toArray,#[],0,led,s.moves,true⟩ m2,true⟩ (Array.filterMap (fun x=>hs1.toArray[x]?) (live.map (·.2)).toArray).size&&true)=true then some (Array.filterMap (fun x=>hs1.toArray[x]?) (live.map (·.2)).toArray,(⟨m2,(live.map (·.1)).toArray,#[],0,led,SetTable.movedTo ⟨s.mask,pl.toArray,#[],0,led,s.moves,true⟩ m2,true⟩:SetTable)) else none)=_
            rw [ef]
            have q1:((live.map (·.2)).filterMap (hs1[·]?)).toArray.size=hs1.length:=by rw [List.size_toArray]; exact k1
            have q2:SetTable.fits ⟨m2,(live.map (·.1)).toArray,#[],0,led,SetTable.movedTo ⟨s.mask,pl.toArray,#[],0,led,s.moves,true⟩ m2,true⟩ hs1.length=true:=by
              simp only [SetTable.fits,SetTable.fill,List.size_toArray,List.length_map,List.length_nil,Nat.add_zero,k2,beq_self_eq_true,Bool.true_and,decide_eq_true_eq]
              exact k2 ▸ k3
            rw [q1,q2]
            rw [if_pos (by simp)]
            cases e
            rfl
          next=>cases e
        next=>cases e
      next hf =>
        cases e
        rw [if_neg (by simpa using hf)]
    next=>cases e
  next=>cases e
section
variable {prog:Program} {w:World} {A:Around} {E:Value→Shared→Prop} {s:Shared} {a T:Addr} {o0:Option Obj}
theorem hbv_int (n:Nat) (i:Int) (t:Tok):hashByValue n (.int i t)=pure true:=by cases n <;> rfl
theorem hbv_tup {its:Array Value} {Q:Bool→Shared→Prop} (ht:IsTup s.heap T its) (hi:∀ v∈its.toList,∃ i t,v=Value.int i t) (h:Q true s):wpAny (model prog w) A (hashByValue 8 (.ref T)) Q E s:=by
  obtain ⟨o,ho,hc,n,hd⟩:=ht
  have hT:s.TypeIs (.ref T) "tuple":=⟨o,ho,hc⟩
  unfold hashByValue
  refine wpAny_bind (wpAny_specialOf hT F.slot_tuple_hash.lookup ?_)
  dsimp only
  refine wpAny_bind (wpAny_seqItems ho hd ?_)
  refine wpAny_bind ?_
  show wpAny _ _ (forIn its _ _) _ _ s
  rw [← Array.forIn_toList]
  refine wpAny_forIn_list _ (fun rest r s'=>r.1=none∧s'=s∧∀ v∈rest,∃ i t,v=Value.int i t) _ ?_ ?_ _ _ ⟨rfl,rfl,hi⟩
  · rintro v rest r s' ⟨hr,rfl,hall⟩
    obtain ⟨i,t,rfl⟩:=hall v List.mem_cons_self
    rw [hbv_int]
    refine wpAny_bind (wpAny_pure ?_)
    simp only [Bool.not_true,Bool.false_eq_true,if_false]
    exact wpAny_pure ⟨rfl,rfl,fun u hu'=>hall u (List.mem_cons_of_mem _ hu')⟩
  · rintro ⟨r1,r2⟩ s' ⟨hr,rfl,_⟩
    simp only at hr
    subst hr
    exact wpAny_pure h
noncomputable def SetAt (h:Heap) (a:Addr) (es:Array (Int×Value)) (t:SetTable):Prop:=∃ o ep,h.get? a=some o∧o.ExactSet∧o.data=.set es ep t∧t.fits es.size=true
theorem SetAt.put {h:Heap} {es:Array (Int×Value)} {t:SetTable} (S:SetAt h a es t) (es':Array (Int×Value)) (t':SetTable) (hf:t'.fits es'.size=true):SetAt (h.update a (Obj.putSet es' t')) a es' t':=by
  obtain ⟨o,ep,ho,hex,hd,_⟩:=S
  have hg:(h.update a (Obj.putSet es' t')).get? a=some {o with data:=.set es' (ep + 1) t'}:=by
    have:=Heap.get?_update_self (Obj.putSet es' t') ho (by rw [putSet_of es' t' hd]; rfl)
    rw [putSet_of es' t' hd] at this; exact this
  exact ⟨_,_,hg,hex,rfl,hf⟩
theorem ins_map (es:Array (Int×Value)) (p:Nat) (h:Int) (x:Value):(SetTable.insertAt es p (h,x)).map (·.1)=SetTable.insertAt (es.map (·.1)) p h:=by
  unfold SetTable.insertAt
  simp [Array.map_append,Array.map_push,Array.map_extract]
theorem ord_map (es:Array (Int×Value)) (order:Array Nat):(order.filterMap (es[·]?)).map (·.1)=order.filterMap ((es.map (·.1))[·]?):=by
  apply Array.ext'
  simp only [Array.toList_map,Array.toList_filterMap]
  induction order.toList with
  | nil=>rfl
  | cons i l ih =>
    simp only [List.filterMap_cons,Array.getElem?_map]
    cases es[i]? with
    | none=>simpa using ih
    | some e=>simpa using ih
set_option tactic.hygienic true in
theorem add_tup {es:Array (Int×Value)} {t t':SetTable} {h:Int} {hs':Array Int} {Q:Bool→Shared→Prop} (S:SetAt s.heap a es t)
    (lay:layA (es.map (·.1)) t h=some (hs',t')) (hv:∀ (s:Shared) (Q:Bool→Shared→Prop),s.heap.get? T=o0→Q true s→wpAny (model prog w) A (hashByValue 8 (.ref T)) Q E s) (hT:s.heap.get? T=o0)
    (q:∀ h' es',SetAt h' a es' t'→es'.map (·.1)=hs'→Heap.SameBut a s.heap h'→Q true {s with heap:=h'}) :
    wpAny (model prog w) A (setAddHashed a (.ref T) h) Q E s:=by
  obtain (⟨o,ep,ho,hex,hd,hf⟩):=S
  have S:SetAt s.heap a es t:=⟨o,ep,ho,hex,hd,hf⟩
  have hsa:(fun i:Nat=>((es.map (fun e:Int×Value=>e.1))[i]?).getD 0)=fun i=>(es[i]?.map (fun e:Int×Value=>e.1)).getD 0:=by funext i; rw [Array.getElem?_map]
  unfold layA at lay
  rw [hsa] at lay
  split at lay
  · cases lay
  next hgw =>
  split at lay
  next j hp =>
    dsimp only at lay
    split at lay
    · cases lay
    next hf1 =>
    simp only [Bool.or_eq_true,Bool.not_eq_true',decide_eq_true_eq,not_or,Bool.not_eq_false,Bool.and_eq_true] at hf1
    obtain (⟨⟨hf1,hpl⟩,hz⟩):=hf1
    rw [← ins_map (x:=.ref T)] at hf1 hz lay
    rw [Array.size_map] at hf1 hz
    unfold setAddHashed setAddHashedIn
    refine wpAny_holding (wpAny_bind (wpAny_setState_of ho hd hf ?_))
    dsimp only
    rw [if_neg (by simp [byScan,Value.scannable])]
    unfold setSearch setSearchFrom
    refine wpAny_bind (wpAny_bind (wpAny_setState_of ho hd hf ?_))
    dsimp only
    rw [if_neg hgw]
    split
    next met hm =>
      have e:=Option.some.inj ((show t.probe (fun i=>(es[i]?.map (fun e:Int×Value=>e.1)).getD 0) h (t.probeStart h)=some met from hm).symm.trans hp)
      subst e
      dsimp only
      refine wpAny_pure ?_
      dsimp only
      refine wpAny_bind (wpAny_setState_of ho hd hf ?_)
      dsimp only
      rw [if_pos hpl]
      generalize hes1:SetTable.insertAt es (t.put j).snd (h,Value.ref T)=es1 at *
      generalize (t.put j).fst=t1 at *
      refine wpAny_bind (hv _ _ hT ?_)
      simp only [if_true]
      refine wpAny_bind (wpAny_storeSet_of ho hd ?_ (Nat.le_trans (Nat.le_of_not_lt hz) (by decide)))
      have S1:=S.put es1 t1 hf1
      have sb1:=Heap.SameBut.update s.heap a (Obj.putSet es1 t1)
      generalize s.heap.update a (Obj.putSet es1 t1)=h1 at *
      split at lay
      next htf =>
        split at lay
        · cases lay
        next hsz =>
        simp only [decide_eq_true_eq] at hsz
        split at lay
        next t2 order hrl =>
          split at lay
          next hc =>
            simp only [Bool.and_eq_true,beq_iff_eq] at hc
            obtain (⟨⟨hc1,hc2⟩,hc3⟩):=hc
            rw [if_pos (by rw [htf]; rfl)]
            obtain (⟨o1,ep1,ho1,hex1,hd1,_⟩):=S1
            unfold setRelay
            refine wpAny_bind (wpAny_bind (wpAny_setState_of (s:={s with heap:=h1}) ho1 hd1 hf1 ?_))
            dsimp only
            rw [Array.size_map] at hsz
            rw [if_neg hsz]
            rw [Array.size_map] at hrl
            rw [hrl]
            have hs2:(order.filterMap (es1[·]?)).size=es1.size:=by
              have:=hc1
              rw [Array.size_map,← ord_map,Array.size_map] at this
              exact this
            refine wpAny_bind ?_
            show wpAny _ _ (do
              if (order.filterMap (es1[·]?)).size != es1.size then unsupported "internal:set-table-lost-an-element"
              pure (order.filterMap (es1[·]?),t2)) _ _ _
            rw [if_neg (by rw [hs2]; simp)]
            refine wpAny_pure ?_
            dsimp only
            have S1':SetAt h1 a es1 t1:=⟨o1,ep1,ho1,hex1,hd1,hf1⟩
            refine wpAny_storeSet_of (s:={s with heap:=h1}) ho1 hd1 (wpAny_pure ?_) (by rw [hs2]; exact Nat.le_trans (Nat.le_of_not_lt hz) (by decide))
            have hf2:t2.fits (order.filterMap (es1[·]?)).size=true:=by
              have:=hc2
              rw [← ord_map,Array.size_map] at this
              exact this
            have S2:=S1'.put _ t2 hf2
            have e2:=ord_map es1 order
            cases lay
            exact q _ _ S2 e2 (sb1.trans (Heap.SameBut.update h1 a _))
          next=>cases lay
        next=>cases lay
      next htf =>
        cases lay
        rw [if_neg (by simpa using htf)]
        exact wpAny_pure (q _ _ S1 rfl sb1)
    next hm =>
      exact absurd ((show t.probe (fun i=>(es[i]?.map (fun e:Int×Value=>e.1)).getD 0) h (t.probeStart h)=none from by
        cases e:t.probe (fun i=>(es[i]?.map (fun e:Int×Value=>e.1)).getD 0) h (t.probeStart h) with
        | none=>rfl
        | some met=>exact absurd e (hm met)).symm.trans hp) (by simp)
  next=>cases lay
end
noncomputable abbrev keyP (k:Int×Int):List Key:=[(Sum.inl k.1:Key),Sum.inl k.2]
noncomputable def hashP (prog:Program) (w:World) (k:Int×Int):Int:=(tupleKind (mixKind prog w)).hash (keyP k)
noncomputable def layFA (led:Bool) (l:List Int):Option (Array Int×SetTable):=l.foldlM (fun st h=>layA st.1 st.2 h) (#[],SetTable.fresh 0 0 led)
theorem layFA_snoc (led:Bool) (l:List Int) (h:Int):layFA led (l++[h])=(layFA led l).bind fun st=>layA st.1 st.2 h:=by
  unfold layFA
  rw [List.foldlM_append]
  cases List.foldlM (fun st h=>layA st.1 st.2 h) (#[],SetTable.fresh 0 0 led) l with
  | none=>rfl
  | some st=>simp
theorem layFA_pre (led:Bool) (l m:List Int) {r:Array Int×SetTable} (h:layFA led (l++m)=some r):∃ st,layFA led l=some st:=by
  unfold layFA at *
  rw [List.foldlM_append] at h
  cases e:List.foldlM (fun st h=>layA st.1 st.2 h) (#[],SetTable.fresh 0 0 led) l with
  | none=>rw [e] at h; cases h
  | some st=>exact ⟨st,rfl⟩
theorem layFA_of (led:Bool):∀ (l:List Int) (s s':MP.LT),l.foldlM MP.layOne s=some s'→l.foldlM (fun st h=>layA st.1 st.2 h) (s.hs.toArray,tOfL s led)=some (s'.hs.toArray,tOfL s' led)
  | [],s,s',e=>by cases e; rfl
  | h::l,s,s',e=>by
    rw [List.foldlM_cons] at e ⊢
    cases e1:MP.layOne s h with
    | none=>rw [e1] at e; cases e
    | some s1 =>
      rw [e1] at e
      dsimp only
      rw [lay_eq s s1 led h e1]
      exact layFA_of led l s1 s' e
theorem layFA_L {l:List Int} {s':MP.LT} (led:Bool) (e:MP.layFrom l=some s'):layFA led l=some (s'.hs.toArray,tOfL s' led):=layFA_of led l ⟨[],7,[],0⟩ s' e
theorem hashP_small {P:Program} {w:World} {k:Int×Int} (h:smallK k):hashP P w k=MP.hashK k:=by
  obtain ⟨a,b⟩:=k
  obtain ⟨⟨a0,a1⟩,b0,b1⟩:=h
  simp only at a0 a1 b0 b1
  obtain ⟨a,rfl⟩:=Int.eq_ofNat_of_zero_le a0
  obtain ⟨b,rfl⟩:=Int.eq_ofNat_of_zero_le b0
  have la:a < hBnd:=by unfold hBnd; lia
  have lb:b < hBnd:=by unfold hBnd; lia
  show reduceHash (Builtin.Tuple.tupleHashOf [hashInt a,hashInt b])=_
  rw [hashInt_small a la,hashInt_small b lb]
  rfl
theorem keyInts {k:Int×Int} {vs:List Value} {prog:Program} {w:World} (h:ItemsAre (mixKind prog w) (keyP k) vs):∀ v∈vs,∃ i t,v=Value.int i t:=by
  cases h with
  | cons h1 t1 =>
    cases t1 with
    | cons h2 t2 =>
      cases t2
      intro v hv
      have f:∀ {i:Int} {v:Value},keyIs (Sum.inl i) v=true→∃ i t,v=Value.int i t:=fun {i v} q=>by
        rcases keyIs_shape q with ⟨j,u,e,rfl⟩ | ⟨y,u,e,_⟩
        · exact ⟨j,u,rfl⟩
        · cases e
      simp only [List.mem_cons,List.not_mem_nil,or_false] at hv
      rcases hv with rfl | rfl
      · exact f h1
      · exact f h2
section
variable {prog:Program} {w:World} {A:Around} {R:Result→Shared→Prop} {D I l:Addr} {items:Array Value} {h₀:Heap}
noncomputable def CellsAt (prog:Program) (w:World) (h:Heap) (items:Array Value) (ks:List (Int×Int)):Prop :=
  ∀ (i:Nat) (v:Value),items[i]?=some v→∃ T k,v=.ref T∧ks[i]?=some k∧(tupleKind (mixKind prog w)).is h (keyP k) T
theorem sul_loop (hu:A.units + 2 < cLine) (hh:A.handled=none) (ks:List (Int×Int)) (hks:ks.length=items.size) (hDI:D≠I) (hlI:l≠I) (hlD:l≠D) (led:Bool) {hsN:Array Int} {tN:SetTable} (lay:layFA led (ks.map (hashP prog w))=some (hsN,tN))
    (keepP:∀ h',(∀ b o,b≠D→b≠I→h₀.get? b=some o→h'.get? b=some o)→CellsAt prog w h' items ks) :
    ∀ (m i:Nat) (s:Shared) (es:Array (Int×Value)) (t:SetTable),items.size - i=m→i≤items.size→s.heap.IsListIter I l i→s.heap.IsList l items→(∀ b o,b≠D→b≠I→h₀.get? b=some o→s.heap.get? b=some o) →
    SetAt s.heap D es t→layFA led ((ks.take i).map (hashP prog w))=some (es.map (·.1),t) →
    (∀ h' tk es',SetAt h' D es' tN→es'.map (·.1)=hsN→(∀ b o,b≠D→b≠I→h₀.get? b=some o→h'.get? b=some o)→R (.ok (.ret .none)) {s with heap:=h',toks:=tk}) →
    codeAny (model prog w) A (.builtin "set.update.loop" ⟨[.ref D,.ref I],[]⟩) R s:=by
  intro m
  induction m with
  | zero =>
    intro i s es t hm hi st hl hk hd hla hR
    have hin:i=items.size:=by lia
    refine codeAny_builtin F.entry_set_update_loop ?_
    rw [Around.under_plainId F.plain_set_update_loop _]
    show wpAny _ A.in1 (pyNext (.ref I) >>= _) _ _ s
    refine wpAny_bind (wpAny_pyNext_list_end hh st hl (by simp [hin]) fun h' eb=>?_)
    show wpAny _ A.in1 (ret Value.none) _ _ _
    rw [hin,← hks,List.take_length,lay] at hla
    cases hla
    obtain ⟨o,ep,ho,rest⟩:=hd
    exact wpAny_pure (hR h' _ es ⟨o,ep,eb D o hDI ho,rest⟩ rfl fun b o h1 h2 e=>eb b o h2 (hk b o h1 h2 e))
  | succ m ih =>
    intro i s es t hm hi st hl hk hd hla hR
    have hlt:i < items.size:=by lia
    refine codeAny_builtin F.entry_set_update_loop ?_
    rw [Around.under_plainId F.plain_set_update_loop _]
    show wpAny _ A.in1 (pyNext (.ref I) >>= _) _ _ s
    refine wpAny_bind (wpAny_pyNext_list_item st hl (x:=items[i]) (by simp [hlt]) fun h' st' sb=>?_)
    have hk':∀ b o,b≠D→b≠I→h₀.get? b=some o→h'.get? b=some o:=fun b o h1 h2 e=>(sb.2 b h2).trans (hk b o h1 h2 e)
    obtain ⟨T,k,e1,e2,e3⟩:=keepP h' hk' i items[i] (by simp [hlt])
    have hd':SetAt h' D es t:=by
      obtain ⟨o,ep,ho,rest⟩:=hd
      exact ⟨o,ep,(sb.2 D hDI).trans ho,rest⟩
    have e3':=e3
    obtain ⟨oT,its,nT,t1,t2,t3,t4⟩:=e3'
    have tk1:(ks.take (i + 1)).map (hashP prog w)=(ks.take i).map (hashP prog w)++[hashP prog w k]:=by
      rw [List.take_add_one,e2]; simp
    obtain ⟨st2,hst2⟩:=layFA_pre led ((ks.take (i + 1)).map (hashP prog w)) ((ks.drop (i + 1)).map (hashP prog w)) (r:=(hsN,tN)) (by rw [← List.map_append,List.take_append_drop]; exact lay)
    have hl1:layA (es.map (·.1)) t (hashP prog w k)=some st2:=by
      have:=hst2
      rw [tk1,layFA_snoc,hla] at this
      exact this
    rw [e1]
    show wpAny _ A.in1 (holding [Value.ref T] (setAdd D (.ref T)) >>= _) _ _ _
    refine wpAny_bind (wpAny_holding ?_)
    unfold setAdd
    refine wpAny_holding ?_
    refine wpAny_bind ((tupleKind (mixKind prog w)).pyHash (tupleKind_room_in1 (by lia)) e3 ?_)
    refine add_tup (o0:=some oT) (t':=st2.2) (hs':=st2.1) hd' hl1 (fun s' Q hT q=>hbv_tup (its:=its) ⟨oT,hT,t2,nT,t3⟩ (keyInts t4) q) t1 fun h'' es'' hd'' em sb''=>?_
    refine wpAny_pure ⟨plainId_quiet F.plain_set_update_loop _,?_⟩
    have hk'':∀ b o,b≠D→b≠I→h₀.get? b=some o→h''.get? b=some o:=fun b o h1 h2 e=>(sb''.2 b h1).trans (hk' b o h1 h2 e)
    refine ih (i + 1) _ es'' st2.2 (by lia) hlt (st'.at fun o e=>(sb''.2 I (Ne.symm hDI)).trans e) (hl.at fun o e=>(sb''.2 l hlD).trans ((sb.2 l hlI).trans e)) hk'' hd'' (by rw [hst2,em]) fun h3 tk es3 hd3 em3 hk3=>hR h3 tk es3 hd3 em3 hk3
end
end L3
end
section
set_option maxHeartbeats 4000000
namespace L3
open PySem PySem.Spec PyProof.Rows L2 M3
section
variable {prog:Program} {w:World} {A:Around} {E:Value→Shared→Prop} {s:Shared}
noncomputable abbrev setO (led:Bool):Obj:={cls:=.type "set",dict:=none,data:=.set #[] 0 (.fresh 0 0 led)}
theorem call_set_by {l:Value} {Q:Value→Shared→Prop}
    (hnext:∀ led:Bool,wpAny (model prog w) A.in1.in1 (Builtin.«set.__init__» ⟨[.ref s.heap.objs.size,l],[]⟩)
        (fun fin s'=>match fin with | .done f=>wants (fun r s₂=>r=.none∧Q (.ref s.heap.objs.size) s₂) E (.ok f) s' | .again c'=>c'.quiet=true∧codeAny (model prog w) A.in1 c' (wants (fun r s₂=>r=.none∧Q (.ref s.heap.objs.size) s₂) E) s')
        (fun e s'=>wants (fun r s₂=>r=.none∧Q (.ref s.heap.objs.size) s₂) E (.error e) s') {s with heap:=s.heap.push (setO led)}) :
    wpAny (model prog w) A (call (.type "set") [l]) Q E s:=by
  have ft:=F.called_set
  obtain ⟨c,tl,hmro⟩:=ft.mro
  have q1:=ft.made
  have q2:=ft.sub
  refine wpAny_call (codeAny_of_tree ?_)
  show wpAny _ _ (callAny (.type "set") ⟨[l],[]⟩) _ _ _
  refine wpAny_pure ⟨Code.quiet_builtin _ (by decide +kernel),?_⟩
  refine codeAny_builtin F.entry_type_call ?_
  rw [Around.under_plain (weight_type_call_type "set" [l] []) rfl]
  have q3:=ft.notType
  have q4:=ft.canCreate
  have q5:=F.typeCall_set_1 l
  repeat' (first | assumption | wp_step)
  refine codeAny_mono (code_set_new_1 l (E:=E) (Q₁:=fun u s₁=>∃ led,u=.ref s.heap.objs.size∧s₁={s with heap:=s.heap.push (setO led)}) fun led=>⟨led,rfl,rfl⟩) fun r s₁ hr=>?_
  match r,hr with
  | .error e,hr=>exact hr
  | .ok (.ret obj),hr =>
    obtain ⟨led,rfl,rfl⟩:=hr
    have hS:(s.heap.push (setO led)).get? s.heap.objs.size=some (setO led):=Heap.get?_push_size _ rfl
    have hT:Shared.TypeIs {s with heap:=s.heap.push (setO led)} (.ref s.heap.objs.size) "set":=⟨_,hS,rfl⟩
    have q6:=ft.init.lookup
    have q7:=ft.init.bind (.ref s.heap.objs.size)
    repeat' (first | assumption | wp_step)
    refine codeAny_mono (codeAny_call_builtin ft.init.plain F.entry_set_init (check_set_init_1 hT (hnext led))) fun r₂ s₂ hr₂=>?_
    match r₂,hr₂ with
    | .error e,hr₂=>exact hr₂
    | .ok (.ret r),hr₂ =>
      obtain ⟨rfl,hq⟩:=hr₂
      repeat' (first | assumption | wp_step)
end
noncomputable def SetN (n:Nat) (p:Addr):HO:=.ext fun h=>∃ es t,SetAt h p es t∧es.size=n
noncomputable def CellsV (H:Hp):List V→List (Int×Int)→Prop:=Paired fun v k=>∃ T,v=V.ref T∧H T=some (.tup [.int k.1,.int k.2])
noncomputable def rSetL:List V→Hp→VK→Prop:=fun xs H Q=>∃ a vs ks,xs=[.ref a]∧Rd H a (.lst vs)∧CellsV H vs ks∧(∀ k∈ks,smallK k)∧MP.layP ks=true∧∀ p,H p=none→Q (.ref p) (upd H p (SetN ks.length p))
theorem cells_of {P:Program} {w:World} {H:Hp} {h:Heap} (ok:HOk P w H h):∀ {vs:List V} {ks:List (Int×Int)} {us:List Value},CellsV H vs ks→Vals vs us →
    ks.length=us.length∧∀ (i:Nat) (v:Value),us[i]?=some v→∃ T k,v=.ref T∧ks[i]?=some k∧(tupleKind (mixKind P w)).is h (keyP k) T
  | _,_,_,.nil,.nil=>⟨rfl,fun i v e=>by simp at e⟩
  | _,_,_,.cons (a:=v) (b:=k) hv tv,.cons (b:=u) hu tu=>by
    obtain ⟨k1,k2⟩:=cells_of ok tv tu
    obtain ⟨T,rfl,hT⟩:=hv
    obtain rfl:u=Value.ref T:=hu
    refine ⟨by simp [k1],fun i v e=>?_⟩
    cases i with
    | zero=>simp at e; subst e; exact ⟨T,_,rfl,rfl,key_of ok (ks:=keyP k) hT⟩
    | succ i=>simpa using k2 i v (by simpa using e)
section
variable {X:Cx}
theorem call_setL (hc:X.calm=true) (hu:X.A.units + 5 < cLine):CallR X (.type "set") rSetL:=by
  intro pins s σ H xs us Q I r h
  obtain ⟨a,vs,ks,rfl,ha,cv,hsm,hlay,q⟩:=h
  obtain rfl:=one_val r
  obtain ⟨_,its,n,rv,hg⟩:=ha.ok I.hok
  obtain ⟨k1,k2⟩:=cells_of I.hok cv rv
  have hh:=I.ok.hd hc
  have lta:a < s.heap.objs.size:=Heap.lt_size hg
  refine call_set_by fun led=>?_
  generalize hp1:s.heap.push (setO led)=h1
  have hD1:h1.get? s.heap.objs.size=some (setO led):=by rw [← hp1]; exact Heap.get?_push_size _ rfl
  have kp1:∀ b o,s.heap.get? b=some o→h1.get? b=some o:=fun b o e=>by rw [← hp1]; exact Heap.get?_push_of_some _ e
  have hg1:=kp1 _ _ hg
  have S0:SetAt h1 s.heap.objs.size #[] (.fresh 0 0 led):=⟨_,0,hD1,⟨rfl,rfl,rfl⟩,rfl,rfl⟩
  obtain ⟨st,hst,hsz⟩:∃ st,layFA led (ks.map (hashP X.prog X.w))=some st∧st.1.size=ks.length:=by
    have e:ks.map (hashP X.prog X.w)=ks.map MP.hashK:=List.map_congr_left fun k hk=>hashP_small (hsm k hk)
    rw [e]
    unfold MP.layP MP.layB at hlay
    cases e2:MP.layFrom (ks.map MP.hashK) with
    | none=>rw [e2] at hlay; cases hlay
    | some s' =>
      rw [e2] at hlay
      exact ⟨_,layFA_L led e2,by simpa using hlay⟩
  have hl1:h1.IsList a its.toArray:=⟨_,hg1,rfl,n,rfl⟩
  have z1:=F.sub_list_set
  have z2:=F.sub_list_frozenset
  have z3:(Value.type "list" == Value.type "dict")=false:=by decide
  unfold Builtin.«set.__init__» noKeywords Builtin.Frozenset.updateFrom
  generalize hPI:pyIter=PI
  have hT:Shared.TypeIs {s with heap:=h1} (.ref s.heap.objs.size) "set":=⟨_,hD1,rfl⟩
  have hol:=hg1
  have hlS:=lstO
  wp_walk
  subst hPI
  refine wpAny_pyIter_list hl1 ?_
  refine wpAny_bind (wpAny_runValue ?_)
  generalize hp3:h1.push {cls:=.type "list_iterator",data:=.fields #[.ref a,.int 0 0]}=h3
  have kp3:∀ b o,h1.get? b=some o→h3.get? b=some o:=fun b o e=>by rw [← hp3]; exact Heap.get?_push_of_some _ e
  have kp:∀ b o,s.heap.get? b=some o→h3.get? b=some o:=fun b o e=>kp3 _ _ (kp1 _ _ e)
  have ltD:s.heap.objs.size < h1.objs.size:=Heap.lt_size hD1
  have hh3:X.A.in1.in1.handled=none:=hh
  refine sul_loop (A:=X.A.in1.in1) (D:=s.heap.objs.size) (I:=h1.objs.size) (l:=a) (items:=its.toArray) (h₀:=s.heap) (by show X.A.units + 1 + 1 + 2 < cLine; lia) hh3 ks (by simp [k1]) (Nat.ne_of_lt ltD) (Nat.ne_of_lt (Nat.lt_trans lta ltD)) (Nat.ne_of_lt lta) led hst
    (fun h' kk i v e=>?_) its.toArray.size 0 _ #[] (.fresh 0 0 led) (by simp) (Nat.zero_le _) ?_ ?_ ?_ ?_ (by simp [layFA]) fun h' tk es' hd em hk=>?_
  · obtain ⟨T,k,e1,e2,oK,iK,nK,q1,q2⟩:=k2 i v (by simpa using e)
    have up:∀ b o,s.heap.get? b=some o→h'.get? b=some o:=fun b o e=>kk b o (Nat.ne_of_lt (Heap.lt_size e)) (Nat.ne_of_lt (Nat.lt_trans (Heap.lt_size e) ltD)) e
    exact ⟨T,k,e1,e2,oK,iK,nK,up _ _ q1,q2⟩
  · exact ⟨_,by rw [← hp3]; exact Heap.get?_push_size _ rfl,rfl,rfl⟩
  · exact ⟨_,kp _ _ hg,rfl,n,rfl⟩
  · exact fun b o _ _ e=>kp _ _ e
  · obtain ⟨o,ep,ho,rest⟩:=S0
    exact ⟨o,ep,kp3 _ _ ho,rest⟩
  · have up:∀ b o,s.heap.get? b=some o→h'.get? b=some o:=fun b o e=>hk b o (Nat.ne_of_lt (Heap.lt_size e)) (Nat.ne_of_lt (Nat.lt_trans (Heap.lt_size e) ltD)) e
    have fr:H s.heap.objs.size=none:=I.hok.fresh (Nat.le_refl _)
    have hz:es'.size=ks.length:=by rw [← hsz,← em,Array.size_map]
    show wpAny _ _ _ _ _ _
    refine wpAny_pure ?_
    show wpAny _ _ (ret Value.none) _ _ _
    refine wpAny_pure ⟨rfl,.ref s.heap.objs.size,_,I.laid (a:=s.heap.objs.size) (o:=SetN ks.length s.heap.objs.size) (t':=tk) up (Nat.le_refl _) ?_,rfl,q _ fr⟩
    obtain ⟨o,ep,ho,rest⟩:=hd
    refine ⟨⟨es',_,⟨o,ep,ho,rest⟩,hz⟩,⟨o,ho⟩,?_⟩
    rintro g1 g2 ⟨es,t,⟨o',ep',ho',rest'⟩,hz'⟩ kk
    exact ⟨es,t,⟨o',ep',kk _ ho',rest'⟩,hz'⟩
theorem call_lenS:CallR X (.builtin "len") (fun xs H Q=>∃ p n,xs=[.ref p]∧H p=some (SetN n p)∧n < 1000000∧Q (.int n) H):=by
  intro pins s σ H xs us Q I r h
  obtain ⟨p,n,rfl,hp,hn,q⟩:=h
  obtain rfl:=one_val r
  obtain ⟨⟨es,t,⟨o,ep,ho,hex,hd,hf⟩,hz⟩,_⟩:=(show ObjOk X.prog X.w H s.heap p (SetN n p) from I.hok p _ hp)
  subst hz
  exact call_len_set ho hex hd hf (by lia) ⟨.int es.size,H,I.tok _,⟨_,rfl⟩,q⟩
end
end L3
end
section
set_option maxHeartbeats 4000000
namespace M3
open PySem
open Sem (wp)
noncomputable abbrev IsZipB (h:Heap) (z TI TO:Addr) (p:Addr) (fl:Bool):Prop :=
  h.get? z=some {cls:=.type "zip",dict:=none,data:=.fields #[rawInt p,.bool fl,.bool false,.ref TI,.ref TO],slots:=#[]}
section
variable {prog:Program} {w:World} {A:Around} {E:Value→Shared→Prop} {s:Shared}
variable {z TI TO i1 i2 p:Addr} {fp1 fp2:List Addr} {n1 n2 k:Nat} {P1 P2:Nat→Value→Prop} {S1 S2:Nat→Heap→Prop} {fl:Bool}
theorem zipL_item {Q:Value→Shared→Prop} (Z:ZAp z TI TO i1 i2 fp1 fp2) (D1:Draws prog w A i1 fp1 n1 P1 S1) (D2:Draws prog w A i2 fp2 n2 P2 S2) (hz:IsZipB s.heap z TI TO p fl) (hp:∃ o,s.heap.get? p=some o) (hI:IsPair s.heap TI (.ref i1) (.ref i2))
    (s1:S1 k s.heap) (s2:S2 k s.heap) (k1:k < n1) (k2:k < n2)
    (hQ:∀ x y h' tk,P1 k x→P2 k y→IsZipB h' z TI TO p true→S1 (k + 1) h'→S2 (k + 1) h'→IsPair h' s.heap.objs.size x y→h'.objs.size=s.heap.objs.size + 1 →
      (∀ c o,c≠z→c≠i1→c≠i2→s.heap.get? c=some o→h'.get? c=some o)→Q (.ref s.heap.objs.size) {s with heap:=h',toks:=tk}) :
    wpAny (model prog w) A (Builtin.«zip.__next__» ⟨[.ref z],[]⟩) (fun fin s'=>∃ v,fin=.done (.ret v)∧Q v s') E s:=by
  have iz1:i1≠z:=fun e=>Z.z1 (e ▸ Z.m1)
  have iz2:i2≠z:=fun e=>Z.z2 (e ▸ Z.m2)
  have i12:i1≠i2:=fun e=>Z.a1 (e ▸ Z.m2)
  show wpAny _ _ (field (.ref z) 2 >>= _) _ _ _
  refine wpAny_bind (wpAny_field hz rfl (x:=.bool false) rfl ?_)
  show wpAny _ _ (field (.ref z) 3 >>= _) _ _ _
  refine wpAny_bind (wpAny_field hz rfl (x:=.ref TI) rfl ?_)
  refine wpAny_bind (wpAny_seqItems hI rfl ?_)
  show wpAny _ _ (Builtin.SmallTypes.ownedTupleIsFree (.ref z) >>= _) _ _ _
  refine wpAny_bind ?_
  unfold Builtin.SmallTypes.ownedTupleIsFree
  refine wpAny_bind (wpAny_field hz rfl (x:=rawInt p) rfl ?_)
  obtain ⟨op,hop⟩:=hp
  show wpAny _ _ (loadIfAlive ((p:Int)).toNat >>= _) _ _ _
  rw [Int.toNat_natCast]
  refine wpAny_bind (PySem.W.kdx_alive hop ?_)
  rw [if_neg (by simp)]
  refine wpAny_bind (wpAny_field hz rfl (x:=.bool fl) rfl ?_)
  cases fl
  case true =>
    rw [if_neg (by decide)]
    refine wpAny_pure ?_
    obtain ⟨h1,hh1⟩:∃ h1,h1=s.heap:=⟨_,rfl⟩
    have y1:IsZipB h1 z TI TO p true:=by rw [hh1]; exact hz
    have g1:Heap.SameBut z s.heap h1:=by rw [hh1]; exact Heap.SameBut.refl z s.heap
    have es:s={s with heap:=h1}:=by subst hh1; rfl
    rw [if_neg (by decide),es]
    refine wpAny_bind ?_
    show wpAny _ _ (forIn #[Value.ref i1,Value.ref i2] _ _) _ _ _
    rw [← Array.forIn_toList]
    simp only [List.forIn_cons,List.forIn_nil]
    refine wpAny_bind (wpAny_bind (wpAny_holding ?_))
    show wpAny _ _ (Builtin.SmallTypes.nextOf (.ref i1) >>= _) _ _ _
    refine wpAny_bind (D1.item k _ _ _ k1 (D1.frame _ _ _ s1 fun c hc o e=>g1.extBut c o (fun q=>Z.z1 (q ▸ hc)) e) fun x h2 t2 px q2 g2=>wpAny_pure ?_)
    refine wpAny_pure ?_
    dsimp only
    refine wpAny_bind (wpAny_bind (wpAny_holding ?_))
    show wpAny _ _ (Builtin.SmallTypes.nextOf (.ref i2) >>= _) _ _ _
    refine wpAny_bind (D2.item k _ _ _ k2 (D2.frame _ _ _ s2 fun c hc o e=>g2.extBut c o (fun q=>Z.a1 (q ▸ hc)) (g1.extBut c o (fun q=>Z.z2 (q ▸ hc)) e)) fun y h4 t4 py q4 g4=>wpAny_pure ?_)
    refine wpAny_pure ?_
    dsimp only
    refine wpAny_pure ?_
    dsimp only
    show wpAny _ _ (newTuple [x,y] >>= _) _ _ _
    refine wpAny_bind (wpAny_newTuple ?_)
    refine wpAny_pure ⟨_,rfl,?_⟩
    have sz:h4.objs.size=s.heap.objs.size:=by rw [g4.1,g2.1,g1.1]
    have keep:∀ c o,c≠z→c≠i1→c≠i2→s.heap.get? c=some o→h4.get? c=some o:=fun c o c1 c2 c3 e=>g4.extBut _ _ c3 (g2.extBut _ _ c2 (g1.extBut _ _ c1 e))
    show Q (.ref h4.objs.size) _
    rw [sz]
    refine hQ x y _ t4 px py (Heap.get?_push_of_some _ (g4.extBut _ _ (Ne.symm iz2) (g2.extBut _ _ (Ne.symm iz1) y1))) (D1.frame _ _ _ q2 fun c hc o e=>Heap.get?_push_of_some _ (g4.extBut c o (fun q=>Z.a2 (q ▸ hc)) e)) (D2.frame _ _ _ q4 fun c hc o e=>Heap.get?_push_of_some _ e) ?_ ?_ fun c o c1 c2 c3 e=>Heap.get?_push_of_some _ (keep c o c1 c2 c3 e)
    · show (h4.push _).get? s.heap.objs.size=_
      rw [← sz]
      exact Heap.get?_push_size _ rfl
    · rw [Heap.size_push,sz]
  case false =>
    rw [if_pos (by decide)]
    refine wpAny_bind (wpAny_setField_rec hz (by simp) fun h1 y1 g1=>?_)
    replace y1:IsZipB h1 z TI TO p true:=y1
    refine wpAny_pure ?_
    rw [if_neg (by decide)]
    refine wpAny_bind ?_
    show wpAny _ _ (forIn #[Value.ref i1,Value.ref i2] _ _) _ _ _
    rw [← Array.forIn_toList]
    simp only [List.forIn_cons,List.forIn_nil]
    refine wpAny_bind (wpAny_bind (wpAny_holding ?_))
    show wpAny _ _ (Builtin.SmallTypes.nextOf (.ref i1) >>= _) _ _ _
    refine wpAny_bind (D1.item k _ _ _ k1 (D1.frame _ _ _ s1 fun c hc o e=>g1.extBut c o (fun q=>Z.z1 (q ▸ hc)) e) fun x h2 t2 px q2 g2=>wpAny_pure ?_)
    refine wpAny_pure ?_
    dsimp only
    refine wpAny_bind (wpAny_bind (wpAny_holding ?_))
    show wpAny _ _ (Builtin.SmallTypes.nextOf (.ref i2) >>= _) _ _ _
    refine wpAny_bind (D2.item k _ _ _ k2 (D2.frame _ _ _ s2 fun c hc o e=>g2.extBut c o (fun q=>Z.a1 (q ▸ hc)) (g1.extBut c o (fun q=>Z.z2 (q ▸ hc)) e)) fun y h4 t4 py q4 g4=>wpAny_pure ?_)
    refine wpAny_pure ?_
    dsimp only
    refine wpAny_pure ?_
    dsimp only
    show wpAny _ _ (newTuple [x,y] >>= _) _ _ _
    refine wpAny_bind (wpAny_newTuple ?_)
    refine wpAny_pure ⟨_,rfl,?_⟩
    have sz:h4.objs.size=s.heap.objs.size:=by rw [g4.1,g2.1,g1.1]
    have keep:∀ c o,c≠z→c≠i1→c≠i2→s.heap.get? c=some o→h4.get? c=some o:=fun c o c1 c2 c3 e=>g4.extBut _ _ c3 (g2.extBut _ _ c2 (g1.extBut _ _ c1 e))
    show Q (.ref h4.objs.size) _
    rw [sz]
    refine hQ x y _ t4 px py (Heap.get?_push_of_some _ (g4.extBut _ _ (Ne.symm iz2) (g2.extBut _ _ (Ne.symm iz1) y1))) (D1.frame _ _ _ q2 fun c hc o e=>Heap.get?_push_of_some _ (g4.extBut c o (fun q=>Z.a2 (q ▸ hc)) e)) (D2.frame _ _ _ q4 fun c hc o e=>Heap.get?_push_of_some _ e) ?_ ?_ fun c o c1 c2 c3 e=>Heap.get?_push_of_some _ (keep c o c1 c2 c3 e)
    · show (h4.push _).get? s.heap.objs.size=_
      rw [← sz]
      exact Heap.get?_push_size _ rfl
    · rw [Heap.size_push,sz]
theorem zipL_end {Q:Fin→Shared→Prop} (Z:ZAp z TI TO i1 i2 fp1 fp2) (D1:Draws prog w A i1 fp1 n1 P1 S1) (D2:Draws prog w A i2 fp2 n2 P2 S2) (hz:IsZipB s.heap z TI TO p fl) (hp:∃ o,s.heap.get? p=some o) (hI:IsPair s.heap TI (.ref i1) (.ref i2))
    (s1:S1 k s.heap) (s2:S2 k s.heap) (hk:k=n1∨(k < n1∧k=n2))
    (hE:∀ h' e,(∀ c o,c≠z→c≠i1→c≠i2→s.heap.get? c=some o→h'.get? c=some o)→(∃ o,h'.get? e=some o∧o.cls=.type "StopIteration")→∀ tk,E (.ref e) {s with heap:=h',toks:=tk}) :
    wpAny (model prog w) A (Builtin.«zip.__next__» ⟨[.ref z],[]⟩) Q E s:=by
  have iz1:i1≠z:=fun e=>Z.z1 (e ▸ Z.m1)
  have iz2:i2≠z:=fun e=>Z.z2 (e ▸ Z.m2)
  have i12:i1≠i2:=fun e=>Z.a1 (e ▸ Z.m2)
  show wpAny _ _ (field (.ref z) 2 >>= _) _ _ _
  refine wpAny_bind (wpAny_field hz rfl (x:=.bool false) rfl ?_)
  show wpAny _ _ (field (.ref z) 3 >>= _) _ _ _
  refine wpAny_bind (wpAny_field hz rfl (x:=.ref TI) rfl ?_)
  refine wpAny_bind (wpAny_seqItems hI rfl ?_)
  show wpAny _ _ (Builtin.SmallTypes.ownedTupleIsFree (.ref z) >>= _) _ _ _
  refine wpAny_bind ?_
  unfold Builtin.SmallTypes.ownedTupleIsFree
  refine wpAny_bind (wpAny_field hz rfl (x:=rawInt p) rfl ?_)
  obtain ⟨op,hop⟩:=hp
  show wpAny _ _ (loadIfAlive ((p:Int)).toNat >>= _) _ _ _
  rw [Int.toNat_natCast]
  refine wpAny_bind (PySem.W.kdx_alive hop ?_)
  rw [if_neg (by simp)]
  refine wpAny_bind (wpAny_field hz rfl (x:=.bool fl) rfl ?_)
  cases fl
  case true =>
    rw [if_neg (by decide)]
    refine wpAny_pure ?_
    obtain ⟨h1,hh1⟩:∃ h1,h1=s.heap:=⟨_,rfl⟩
    have g1:Heap.SameBut z s.heap h1:=by rw [hh1]; exact Heap.SameBut.refl z s.heap
    have es:s={s with heap:=h1}:=by subst hh1; rfl
    rw [if_neg (by decide),es]
    refine wpAny_bind ?_
    show wpAny _ _ (forIn #[Value.ref i1,Value.ref i2] _ _) _ _ _
    rw [← Array.forIn_toList]
    simp only [List.forIn_cons,List.forIn_nil]
    refine wpAny_bind (wpAny_bind (wpAny_holding ?_))
    show wpAny _ _ (Builtin.SmallTypes.nextOf (.ref i1) >>= _) _ _ _
    have f1:S1 k h1:=D1.frame _ _ _ s1 fun c hc o e=>g1.extBut c o (fun q=>Z.z1 (q ▸ hc)) e
    rcases hk with hk | ⟨k1,hk⟩
    · refine wpAny_bind (D1.done _ _ _ (hk ▸ f1) fun h2 e g2 he=>?_)
      exact hE h2 e (fun c o c1 c2 c3 q=>g2 _ _ c2 (g1.extBut _ _ c1 q)) he _
    · refine wpAny_bind (D1.item k _ _ _ k1 f1 fun x h2 t2 px q2 g2=>wpAny_pure ?_)
      refine wpAny_pure ?_
      dsimp only
      refine wpAny_bind (wpAny_bind (wpAny_holding ?_))
      show wpAny _ _ (Builtin.SmallTypes.nextOf (.ref i2) >>= _) _ _ _
      have f2:S2 k h2:=D2.frame _ _ _ s2 fun c hc o e=>g2.extBut c o (fun q=>Z.a1 (q ▸ hc)) (g1.extBut c o (fun q=>Z.z2 (q ▸ hc)) e)
      refine wpAny_bind (D2.done _ _ _ (hk ▸ f2) fun h4 e g4 he=>?_)
      exact hE h4 e (fun c o c1 c2 c3 q=>g4 _ _ c3 (g2.extBut _ _ c2 (g1.extBut _ _ c1 q))) he _
  case false =>
    rw [if_pos (by decide)]
    refine wpAny_bind (wpAny_setField_rec hz (by simp) fun h1 y1 g1=>?_)
    refine wpAny_pure ?_
    rw [if_neg (by decide)]
    refine wpAny_bind ?_
    show wpAny _ _ (forIn #[Value.ref i1,Value.ref i2] _ _) _ _ _
    rw [← Array.forIn_toList]
    simp only [List.forIn_cons,List.forIn_nil]
    refine wpAny_bind (wpAny_bind (wpAny_holding ?_))
    show wpAny _ _ (Builtin.SmallTypes.nextOf (.ref i1) >>= _) _ _ _
    have f1:S1 k h1:=D1.frame _ _ _ s1 fun c hc o e=>g1.extBut c o (fun q=>Z.z1 (q ▸ hc)) e
    rcases hk with hk | ⟨k1,hk⟩
    · refine wpAny_bind (D1.done _ _ _ (hk ▸ f1) fun h2 e g2 he=>?_)
      exact hE h2 e (fun c o c1 c2 c3 q=>g2 _ _ c2 (g1.extBut _ _ c1 q)) he _
    · refine wpAny_bind (D1.item k _ _ _ k1 f1 fun x h2 t2 px q2 g2=>wpAny_pure ?_)
      refine wpAny_pure ?_
      dsimp only
      refine wpAny_bind (wpAny_bind (wpAny_holding ?_))
      show wpAny _ _ (Builtin.SmallTypes.nextOf (.ref i2) >>= _) _ _ _
      have f2:S2 k h2:=D2.frame _ _ _ s2 fun c hc o e=>g2.extBut c o (fun q=>Z.a1 (q ▸ hc)) (g1.extBut c o (fun q=>Z.z2 (q ▸ hc)) e)
      refine wpAny_bind (D2.done _ _ _ (hk ▸ f2) fun h4 e g4 he=>?_)
      exact hE h4 e (fun c o c1 c2 c3 q=>g4 _ _ c3 (g2.extBut _ _ c2 (g1.extBut _ _ c1 q))) he _
theorem pyNext_zipL_item {Q:Option Value→Shared→Prop} (Z:ZAp z TI TO i1 i2 fp1 fp2) (D1:Draws prog w A.in1 i1 fp1 n1 P1 S1) (D2:Draws prog w A.in1 i2 fp2 n2 P2 S2) (hz:IsZipB s.heap z TI TO p fl) (hp:∃ o,s.heap.get? p=some o) (hI:IsPair s.heap TI (.ref i1) (.ref i2))
    (s1:S1 k s.heap) (s2:S2 k s.heap) (k1:k < n1) (k2:k < n2)
    (hQ:∀ x y h' tk,P1 k x→P2 k y→IsZipB h' z TI TO p true→S1 (k + 1) h'→S2 (k + 1) h'→IsPair h' s.heap.objs.size x y→h'.objs.size=s.heap.objs.size + 1 →
      (∀ c o,c≠z→c≠i1→c≠i2→s.heap.get? c=some o→h'.get? c=some o)→Q (some (.ref s.heap.objs.size)) {s with heap:=h',toks:=tk}) :
    wpAny (model prog w) A (pyNext (.ref z)) Q E s:=by
  have ty:s.TypeIs (.ref z) "zip":=⟨_,hz,rfl⟩
  unfold pyNext
  refine wpAny_bind (wpAny_attempt (wpAny_callSpecial?_slot (name:=Str.ofString "__next__") ty F.slot_zip_next (wpAny_call_entry F.slot_zip_next ty F.entry_zip_next ?_ (F.args_zip_next_1 _))))
  exact zipL_item Z D1 D2 hz hp hI s1 s2 k1 k2 fun x y h' tk p1 p2 e1 e3 e4 e5 e6 e7=>wpAny_pure (hQ x y h' tk p1 p2 e1 e3 e4 e5 e6 e7)
theorem pyNext_zipL_end {Q:Option Value→Shared→Prop} (Z:ZAp z TI TO i1 i2 fp1 fp2) (D1:Draws prog w A.in1 i1 fp1 n1 P1 S1) (D2:Draws prog w A.in1 i2 fp2 n2 P2 S2) (hz:IsZipB s.heap z TI TO p fl) (hp:∃ o,s.heap.get? p=some o) (hI:IsPair s.heap TI (.ref i1) (.ref i2))
    (s1:S1 k s.heap) (s2:S2 k s.heap) (hk:k=n1∨(k < n1∧k=n2))
    (hQ:∀ h' tk,(∀ c o,c≠z→c≠i1→c≠i2→s.heap.get? c=some o→h'.get? c=some o)→Q none {s with heap:=h',toks:=tk}) :
    wpAny (model prog w) A (pyNext (.ref z)) Q E s:=by
  have ty:s.TypeIs (.ref z) "zip":=⟨_,hz,rfl⟩
  unfold pyNext
  refine wpAny_bind (wpAny_attempt (wpAny_callSpecial?_slot (name:=Str.ofString "__next__") ty F.slot_zip_next (wpAny_call_entry F.slot_zip_next ty F.entry_zip_next ?_ (F.args_zip_next_1 _))))
  refine zipL_end Z D1 D2 hz hp hI s1 s2 hk fun h' e kk ho tk=>?_
  obtain ⟨o,e1,e2⟩:=ho
  exact wpAny_bind (wpAny_isInstance (T:="StopIteration") (b:=true) ⟨o,e1,e2⟩ isSubtype_stop (wpAny_pure (hQ h' tk kk)))
end
end M3
end
section
set_option maxHeartbeats 4000000
namespace L3
open PySem PySem.Spec PyProof.Rows L2 M3
end L3
end
section
set_option maxHeartbeats 4000000
namespace L3
open PySem PySem.Spec PyProof.Rows L2 M3
end L3
end
section
set_option maxHeartbeats 4000000
namespace L3
open PySem PySem.Spec PyProof.Rows L2 M3
end L3
end
section
namespace L3
noncomputable def idxI (k:Int):List Int→Option Nat
  | []=>none
  | x::r=>if x=k then some 0 else (idxI k r).map (· + 1)
end L3
namespace M3
noncomputable def evT {α:Type} (lt:Nat→Nat→Option Bool):PySem.W.KasT α→Option α
  | .ret a=>some a
  | .ask i j k=>match lt i j with
    | some b=>evT lt (k b)
    | none=>none
noncomputable def lexI (fin:Bool):List (Int×Int)→Bool
  | []=>fin
  | (p,q)::r=>if p == q then lexI fin r else decide (p < q)
noncomputable def ltI (a b:List Int):Bool:=lexI (decide (a.length < b.length)) (a.zip b)
noncomputable def ltAt (ts:List (List Int)) (i j:Nat):Option Bool:=match ts[i]?,ts[j]? with
  | some a,some b=>some (ltI a b)
  | _,_=>none
noncomputable def srtP (ts:List (List Int)):Option (List Nat) :=
  if ts.length < 2 then some (List.range ts.length)
  else if ts.length < 64∧ts.all (fun t=>!t.isEmpty)=true then
    match evT (ltAt ts) (PySem.W.kas_sort ts.length) with
    | some p=>if p.toList.all (fun i=>decide (i < ts.length))&&p.size == ts.length then some p.toList else none
    | none=>none
  else none
end M3
end
section
namespace L3
open PySem PySem.Spec PyProof.Rows L2 M3
theorem idx_vals (k:Int):∀ {ns:List Int} {its:List Value},Vals (ns.map V.int) its→PySem.W.kf_ints its=true∧PySem.W.kf_at k its=idxI k ns
  | [],its,r=>by
    have:its=[]:=r.zero
    subst this
    exact ⟨rfl,rfl⟩
  | n::ns,its,r=>by
    cases r with
    | cons a b =>
      obtain ⟨t,rfl⟩:=a
      obtain ⟨h1,h2⟩:=idx_vals k b
      refine ⟨h1,?_⟩
      unfold PySem.W.kf_at idxI
      rw [h2]
      by_cases e:n=k
      · subst e
        rw [if_pos rfl,show isInt n (.int n t)=true from beq_self_eq_true _]; rfl
      · rw [if_neg e,show isInt k (.int n t)=false from beq_false_of_ne e]
        cases idxI k ns <;> rfl
section
variable {X:Cx}
noncomputable def rIndex:V→List V→Hp→VK→Prop:=fun x vs H Q=>∃ l ns k j,x=.ref l∧vs=[.int k]∧Rd H l (.lst (ns.map V.int))∧idxI k ns=some j∧Q (.int (j:Nat)) H
theorem mt_index:MtM X "list.index" rIndex:=by
  intro pins s σ H x vs v us Q I rx rv h
  obtain ⟨l,ns,k,j,rfl,rfl,hH,hj,q⟩:=h
  cases rx
  obtain ⟨u,rfl,ru⟩:=rv.one
  obtain ⟨t,rfl⟩:=ru
  obtain ⟨z,its,n,r,e⟩:=hH.ok I.hok
  have hl:=r.length
  obtain ⟨h1,h2⟩:=idx_vals k r
  rw [hj] at h2
  obtain ⟨a,b,c⟩:=PySem.W.kf_at_spec h2
  rw [sizeLine_eq] at z
  refine call_meets F.slot_list_index ⟨_,e,rfl⟩ F.entry_list_index (F.args_list_index_2 _ _)
    (MeetsSeq.list_index l its.toArray n (.int k t) (isInt k) (fun y hy=>PySem.W.kf_eq h1 y (by simpa using hy)) j (by simpa using a) (by simp; lia) (by simpa using b) (fun i hi hlt=>(c i (by simpa using hi) hlt:isInt k its[i]=false))) ⟨e,?_⟩
  exact ⟨.int (j:Nat),_,I.tok _,⟨_,rfl⟩,q⟩
end
end L3
end
section
set_option maxHeartbeats 4000000
namespace M3
open PySem
open Sem (wp)
noncomputable abbrev IsZipX (h:Heap) (z TI TO:Addr) (v:Value) (fl:Bool):Prop :=
  h.get? z=some {cls:=.type "zip",dict:=none,data:=.fields #[v,.bool fl,.bool false,.ref TI,.ref TO],slots:=#[]}
section
variable {prog:Program} {w:World} {A:Around} {E:Value→Shared→Prop} {s:Shared}
theorem wpAny_dead {a:Addr} {Q:Option Obj→Shared→Prop} (ho:s.heap.get? a=none) (h:Q none s):wpAny (model prog w) A (loadIfAlive a) Q E s:=by
  have h':Q (s.heap.get? a) s:=by rw [ho]; exact h
  exact fun _ _ _=>h'
variable {z TI TO i1 i2 p:Addr} {fp1 fp2:List Addr} {n1 n2 k:Nat} {P1 P2:Nat→Value→Prop} {S1 S2:Nat→Heap→Prop} {fl:Bool} {a b:Value}
theorem zipD_item {Q:Value→Shared→Prop} (Z:ZAp z TI TO i1 i2 fp1 fp2) (D1:Draws prog w A i1 fp1 n1 P1 S1) (D2:Draws prog w A i2 fp2 n2 P2 S2) (hz:IsZipX s.heap z TI TO (rawInt p) fl) (hp:s.heap.get? p=none) (hI:IsPair s.heap TI (.ref i1) (.ref i2)) (hO:IsPair s.heap TO a b)
    (s1:S1 k s.heap) (s2:S2 k s.heap) (k1:k < n1) (k2:k < n2)
    (hQ:∀ x y h' tk,P1 k x→P2 k y→IsZip h' z TI TO (rawInt s.heap.objs.size)→IsPair h' TO x y→S1 (k + 1) h'→S2 (k + 1) h'→IsPair h' s.heap.objs.size x y→h'.objs.size=s.heap.objs.size + 1 →
      (∀ c o,c≠z→c≠TO→c≠i1→c≠i2→s.heap.get? c=some o→h'.get? c=some o)→Q (.ref s.heap.objs.size) {s with heap:=h',toks:=tk}) :
    wpAny (model prog w) A (Builtin.«zip.__next__» ⟨[.ref z],[]⟩) (fun fin s'=>∃ v,fin=.done (.ret v)∧Q v s') E s:=by
  have iz1:i1≠z:=fun e=>Z.z1 (e ▸ Z.m1)
  have iz2:i2≠z:=fun e=>Z.z2 (e ▸ Z.m2)
  have it1:i1≠TO:=fun e=>Z.t1 (e ▸ Z.m1)
  have it2:i2≠TO:=fun e=>Z.t2 (e ▸ Z.m2)
  have i12:i1≠i2:=fun e=>Z.a1 (e ▸ Z.m2)
  show wpAny _ _ (field (.ref z) 2 >>= _) _ _ _; apply wpAny_bind; apply wpAny_field hz rfl (x:=.bool false) rfl
  show wpAny _ _ (field (.ref z) 3 >>= _) _ _ _; apply wpAny_bind; apply wpAny_field hz rfl (x:=.ref TI) rfl
  apply wpAny_bind; apply wpAny_seqItems hI rfl
  show wpAny _ _ (Builtin.SmallTypes.ownedTupleIsFree (.ref z) >>= _) _ _ _; apply wpAny_bind
  unfold Builtin.SmallTypes.ownedTupleIsFree; apply wpAny_bind; apply wpAny_field hz rfl (x:=rawInt p) rfl
  show wpAny _ _ (loadIfAlive ((p:Int)).toNat >>= _) _ _ _
  rw [Int.toNat_natCast]
  refine wpAny_bind (wpAny_dead hp ?_)
  rw [if_pos (by rfl)]; apply wpAny_pure
  simp only [if_true]; apply wpAny_bind; apply wpAny_rule; apply wpAny_bind; apply wpAny_field hz rfl (x:=.ref TO) rfl
  apply wpAny_bind; refine wpAny_setField_rec hz (by simp) fun h1 y1 g1=>?_
  replace y1:IsZipX h1 z TI TO .ellipsis fl:=y1
  apply wpAny_bind; simp only [List.zipIdx_cons,List.zipIdx_nil,List.forIn_cons,List.forIn_nil]
  apply wpAny_bind; apply wpAny_bind; apply wpAny_onRaise
  show wpAny _ _ (Builtin.SmallTypes.nextOf (.ref i1) >>= _) _ _ _; apply wpAny_bind
  refine D1.item k _ _ _ k1 (D1.frame _ _ _ s1 fun c hc o e=>g1.extBut c o (fun q=>Z.z1 (q ▸ hc)) e) fun x h2 t2 px q2 g2=>wpAny_pure ?_
  have o2:IsPair h2 TO a b:=g2.extBut _ _ (Ne.symm it1) (g1.extBut _ _ Z.toz hO)
  apply wpAny_bind; apply wpAny_seqItems o2 rfl; apply wpAny_bind
  refine wpAny_updateSeq_pair o2 fun h3 o3 g3=>wpAny_bind (wpAny_letGo (wpAny_pure ?_))
  replace o3:IsPair h3 TO x b:=o3
  apply wpAny_bind; apply wpAny_bind; apply wpAny_onRaise
  show wpAny _ _ (Builtin.SmallTypes.nextOf (.ref i2) >>= _) _ _ _; apply wpAny_bind
  refine D2.item k _ _ _ k2 (D2.frame _ _ _ s2 fun c hc o e=>g3.extBut c o (fun q=>Z.t2 (q ▸ hc)) (g2.extBut c o (fun q=>Z.a1 (q ▸ hc)) (g1.extBut c o (fun q=>Z.z2 (q ▸ hc)) e))) fun y h4 t4 py q4 g4=>wpAny_pure ?_
  have o4:IsPair h4 TO x b:=g4.extBut _ _ (Ne.symm it2) o3
  apply wpAny_bind; apply wpAny_seqItems o4 rfl; apply wpAny_bind
  refine wpAny_updateSeq_pair o4 fun h5 o5 g5=>wpAny_bind (wpAny_letGo (wpAny_pure (wpAny_pure ?_)))
  replace o5:IsPair h5 TO x y:=o5
  apply wpAny_bind; apply wpAny_seqItems o5 rfl; apply wpAny_bind; refine wpAny_newTuple ?_
  have sz:h5.objs.size=s.heap.objs.size:=by rw [g5.1,g4.1,g3.1,g2.1,g1.1]
  have y5:IsZipX h5 z TI TO .ellipsis fl:=g5.extBut _ _ (Ne.symm Z.toz) (g4.extBut _ _ (Ne.symm iz2) (g3.extBut _ _ (Ne.symm Z.toz) (g2.extBut _ _ (Ne.symm iz1) y1)))
  have c5:∀ c o,c≠z→c≠TO→c≠i1→c≠i2→s.heap.get? c=some o→h5.get? c=some o:=fun c o c1 c2 c3 c4 e=>g5.extBut _ _ c2 (g4.extBut _ _ c4 (g3.extBut _ _ c2 (g2.extBut _ _ c3 (g1.extBut _ _ c1 e))))
  have r1:S1 (k + 1) h5:=D1.frame _ _ _ q2 fun c hc o e=>g5.extBut c o (fun q=>Z.t1 (q ▸ hc)) (g4.extBut c o (fun q=>Z.a2 (q ▸ hc)) (g3.extBut c o (fun q=>Z.t1 (q ▸ hc)) e))
  have r2:S2 (k + 1) h5:=D2.frame _ _ _ q4 fun c hc o e=>g5.extBut c o (fun q=>Z.t2 (q ▸ hc)) e
  have lz:z < h5.objs.size:=Heap.lt_size y5
  show wpAny _ _ (Builtin.SmallTypes.ownedTupleHandOut (.ref z) (.ref h5.objs.size) >>= _) _ _ _; apply wpAny_bind
  unfold Builtin.SmallTypes.ownedTupleHandOut
  have y6:IsZipX (h5.push {cls:=.type "tuple",data:=.seq #[x,y]}) z TI TO .ellipsis fl:=Heap.get?_push_of_some _ y5
  apply wpAny_bind; refine wpAny_setField_rec y6 (by simp) fun h7 y7 g7=>?_
  replace y7:IsZipX h7 z TI TO (rawInt h5.objs.size) fl:=y7
  refine wpAny_setField_rec y7 (by simp) fun h8 y8 g8=>?_
  replace y8:IsZip h8 z TI TO (rawInt h5.objs.size):=y8
  have up:∀ c o,c≠z→h5.get? c=some o→h8.get? c=some o:=fun c o c1 e=>g8.extBut _ _ c1 (g7.extBut _ _ c1 (Heap.get?_push_of_some _ e))
  have p8:IsPair h8 h5.objs.size x y:=g8.extBut _ _ (Nat.ne_of_gt lz) (g7.extBut _ _ (Nat.ne_of_gt lz) (Heap.get?_push_size _ rfl))
  have n8:h8.objs.size=h5.objs.size + 1:=by rw [g8.1,g7.1,Heap.size_push]
  rw [sz] at y8 p8 n8
  refine wpAny_pure ⟨_,rfl,?_⟩
  show Q (.ref h5.objs.size) _
  rw [sz]
  exact hQ x y h8 t4 px py y8 (up _ _ Z.toz o5) (D1.frame _ _ _ r1 fun c hc o e=>up c o (fun q=>Z.z1 (q ▸ hc)) e) (D2.frame _ _ _ r2 fun c hc o e=>up c o (fun q=>Z.z2 (q ▸ hc)) e) p8 n8 fun c o c1 c2 c3 c4 e=>up c o c1 (c5 c o c1 c2 c3 c4 e)
theorem zipD_end {Q:Fin→Shared→Prop} (Z:ZAp z TI TO i1 i2 fp1 fp2) (D1:Draws prog w A i1 fp1 n1 P1 S1) (D2:Draws prog w A i2 fp2 n2 P2 S2) (hz:IsZipX s.heap z TI TO (rawInt p) fl) (hp:s.heap.get? p=none) (hI:IsPair s.heap TI (.ref i1) (.ref i2)) (hO:IsPair s.heap TO a b)
    (s1:S1 k s.heap) (s2:S2 k s.heap) (hk:k=n1∨(k < n1∧k=n2))
    (hE:∀ h' e,(∀ c o,c≠z→c≠TO→c≠i1→c≠i2→s.heap.get? c=some o→h'.get? c=some o)→(∃ o,h'.get? e=some o∧o.cls=.type "StopIteration")→∀ tk,E (.ref e) {s with heap:=h',toks:=tk}) :
    wpAny (model prog w) A (Builtin.«zip.__next__» ⟨[.ref z],[]⟩) Q E s:=by
  have iz1:i1≠z:=fun e=>Z.z1 (e ▸ Z.m1)
  have iz2:i2≠z:=fun e=>Z.z2 (e ▸ Z.m2)
  have it1:i1≠TO:=fun e=>Z.t1 (e ▸ Z.m1)
  have it2:i2≠TO:=fun e=>Z.t2 (e ▸ Z.m2)
  show wpAny _ _ (field (.ref z) 2 >>= _) _ _ _; apply wpAny_bind; apply wpAny_field hz rfl (x:=.bool false) rfl
  show wpAny _ _ (field (.ref z) 3 >>= _) _ _ _; apply wpAny_bind; apply wpAny_field hz rfl (x:=.ref TI) rfl
  apply wpAny_bind; apply wpAny_seqItems hI rfl
  show wpAny _ _ (Builtin.SmallTypes.ownedTupleIsFree (.ref z) >>= _) _ _ _; apply wpAny_bind
  unfold Builtin.SmallTypes.ownedTupleIsFree; apply wpAny_bind; apply wpAny_field hz rfl (x:=rawInt p) rfl
  show wpAny _ _ (loadIfAlive ((p:Int)).toNat >>= _) _ _ _
  rw [Int.toNat_natCast]
  refine wpAny_bind (wpAny_dead hp ?_)
  rw [if_pos (by rfl)]; apply wpAny_pure
  simp only [if_true]; apply wpAny_bind; apply wpAny_rule; apply wpAny_bind; apply wpAny_field hz rfl (x:=.ref TO) rfl
  apply wpAny_bind; refine wpAny_setField_rec hz (by simp) fun h1 y1 g1=>?_
  replace y1:IsZipX h1 z TI TO .ellipsis fl:=y1
  apply wpAny_bind; simp only [List.zipIdx_cons,List.zipIdx_nil,List.forIn_cons,List.forIn_nil]
  apply wpAny_bind; apply wpAny_bind; apply wpAny_onRaise
  show wpAny _ _ (Builtin.SmallTypes.nextOf (.ref i1) >>= _) _ _ _; apply wpAny_bind
  have f1:S1 k h1:=D1.frame _ _ _ s1 fun c hc o e=>g1.extBut c o (fun q=>Z.z1 (q ▸ hc)) e
  rcases hk with hk | ⟨k1,hk⟩
  · refine D1.done _ _ _ (hk ▸ f1) fun h2 e g2 he=>?_
    obtain ⟨oe,e1,e2⟩:=he
    have y2:IsZipX h2 z TI TO .ellipsis fl:=g2 _ _ (Ne.symm iz1) y1
    have ez:e≠z:=fun q=>by subst q; rw [y2] at e1; cases e1; simp at e2
    exact wpAny_setField_rec y2 (by simp) fun h3 _ g3=>hE h3 e (fun c o c1 _ c3 _ q=>g3.extBut _ _ c1 (g2 _ _ c3 (g1.extBut _ _ c1 q))) ⟨oe,g3.extBut _ _ ez e1,e2⟩ _
  · refine D1.item k _ _ _ k1 f1 fun x h2 t2 px q2 g2=>wpAny_pure ?_
    have o2:IsPair h2 TO a b:=g2.extBut _ _ (Ne.symm it1) (g1.extBut _ _ Z.toz hO)
    apply wpAny_bind; apply wpAny_seqItems o2 rfl; apply wpAny_bind
    refine wpAny_updateSeq_pair o2 fun h3 o3 g3=>wpAny_bind (wpAny_letGo (wpAny_pure ?_))
    apply wpAny_bind; apply wpAny_bind; apply wpAny_onRaise
    show wpAny _ _ (Builtin.SmallTypes.nextOf (.ref i2) >>= _) _ _ _; apply wpAny_bind
    have f2:S2 k h3:=D2.frame _ _ _ s2 fun c hc o e=>g3.extBut c o (fun q=>Z.t2 (q ▸ hc)) (g2.extBut c o (fun q=>Z.a1 (q ▸ hc)) (g1.extBut c o (fun q=>Z.z2 (q ▸ hc)) e))
    refine D2.done _ _ _ (hk ▸ f2) fun h4 e g4 he=>?_
    obtain ⟨oe,e1,e2⟩:=he
    have y4:IsZipX h4 z TI TO .ellipsis fl:=g4 _ _ (Ne.symm iz2) (g3.extBut _ _ (Ne.symm Z.toz) (g2.extBut _ _ (Ne.symm iz1) y1))
    have ez:e≠z:=fun q=>by subst q; rw [y4] at e1; cases e1; simp at e2
    exact wpAny_setField_rec y4 (by simp) fun h5 _ g5=>hE h5 e (fun c o c1 c2 c3 c4 q=>g5.extBut _ _ c1 (g4 _ _ c4 (g3.extBut _ _ c2 (g2.extBut _ _ c3 (g1.extBut _ _ c1 q))))) ⟨oe,g5.extBut _ _ ez e1,e2⟩ _
theorem iter_zipX {Q:Value→Shared→Prop} (hT:s.TypeIs (.ref z) "zip") (h:Q (.ref z) s):wpAny (model prog w) A (pyIter (.ref z)) Q E s:=by
  refine wpAny_pyIter_slot hT F.slot_zip_iter (wpAny_call_entry F.slot_zip_iter hT F.entry_zip_iter ?_ (F.args_zip_iter_1 _))
  show wpAny _ _ (ret (.ref z)) _ _ s
  exact wpAny_pure ⟨_,rfl,"zip",_,hT,F.slot_zip_next.lookup,h⟩
noncomputable def ZQ (h:Heap) (z TI TO:Addr):Prop:=∃ v fl,IsZipX h z TI TO v fl∧((v=.none∧fl=false)∨∃ p:Addr,v=rawInt p)
theorem ZQ.obj {h:Heap} (q:ZQ h z TI TO):∃ o,h.get? z=some o∧o.cls=.type "zip"∧∀ v,o.data≠.cell v:=by
  obtain ⟨v,fl,e,_⟩:=q
  exact ⟨_,e,rfl,fun v q=>nomatch q⟩
theorem zipQ_item {Q:Option Value→Shared→Prop} (Z:ZAp z TI TO i1 i2 fp1 fp2) (D1:Draws prog w A.in1 i1 fp1 n1 P1 S1) (D2:Draws prog w A.in1 i2 fp2 n2 P2 S2) (hz:ZQ s.heap z TI TO) (hI:IsPair s.heap TI (.ref i1) (.ref i2)) (hO:IsPair s.heap TO a b)
    (s1:S1 k s.heap) (s2:S2 k s.heap) (k1:k < n1) (k2:k < n2)
    (hQ:∀ x y h' tk,P1 k x→P2 k y→ZQ h' z TI TO→(∃ a b,IsPair h' TO a b)→S1 (k + 1) h'→S2 (k + 1) h'→IsPair h' s.heap.objs.size x y→h'.objs.size=s.heap.objs.size + 1 →
      (∀ c o,c≠z→c≠TO→c≠i1→c≠i2→s.heap.get? c=some o→h'.get? c=some o)→Q (some (.ref s.heap.objs.size)) {s with heap:=h',toks:=tk}) :
    wpAny (model prog w) A (pyNext (.ref z)) Q E s:=by
  have it1:i1≠TO:=fun e=>Z.t1 (e ▸ Z.m1)
  have it2:i2≠TO:=fun e=>Z.t2 (e ▸ Z.m2)
  obtain ⟨v,fl,e,⟨rfl,rfl⟩ | ⟨p,rfl⟩⟩:=hz
  · exact pyNext_zip_item Z D1 D2 e hI hO s1 s2 k1 k2 fun x y h' tk p1 p2 e1 e2 e3 e4 e5 e6 e7=>hQ x y h' tk p1 p2 ⟨_,false,e1,.inr ⟨_,rfl⟩⟩ ⟨_,_,e2⟩ e3 e4 e5 e6 e7
  · cases hp:s.heap.get? p with
    | some o=>exact pyNext_zipL_item Z D1 D2 e ⟨o,hp⟩ hI s1 s2 k1 k2 fun x y h' tk p1 p2 e1 e3 e4 e5 e6 e7=>hQ x y h' tk p1 p2 ⟨_,true,e1,.inr ⟨_,rfl⟩⟩ ⟨_,_,e7 TO _ Z.toz (Ne.symm it1) (Ne.symm it2) hO⟩ e3 e4 e5 e6 fun c o c1 _ c3 c4 q=>e7 c o c1 c3 c4 q
    | none =>
      have ty:s.TypeIs (.ref z) "zip":=⟨_,e,rfl⟩
      unfold pyNext
      refine wpAny_bind (wpAny_attempt (wpAny_callSpecial?_slot (name:=Str.ofString "__next__") ty F.slot_zip_next (wpAny_call_entry F.slot_zip_next ty F.entry_zip_next ?_ (F.args_zip_next_1 _))))
      exact zipD_item Z D1 D2 e hp hI hO s1 s2 k1 k2 fun x y h' tk p1 p2 e1 e2 e3 e4 e5 e6 e7=>wpAny_pure (hQ x y h' tk p1 p2 ⟨_,false,e1,.inr ⟨_,rfl⟩⟩ ⟨_,_,e2⟩ e3 e4 e5 e6 e7)
theorem zipQ_end {Q:Option Value→Shared→Prop} (Z:ZAp z TI TO i1 i2 fp1 fp2) (D1:Draws prog w A.in1 i1 fp1 n1 P1 S1) (D2:Draws prog w A.in1 i2 fp2 n2 P2 S2) (hz:ZQ s.heap z TI TO) (hI:IsPair s.heap TI (.ref i1) (.ref i2)) (hO:IsPair s.heap TO a b)
    (s1:S1 k s.heap) (s2:S2 k s.heap) (hk:k=n1∨(k < n1∧k=n2))
    (hQ:∀ h' tk,(∀ c o,c≠z→c≠TO→c≠i1→c≠i2→s.heap.get? c=some o→h'.get? c=some o)→Q none {s with heap:=h',toks:=tk}) :
    wpAny (model prog w) A (pyNext (.ref z)) Q E s:=by
  obtain ⟨v,fl,e,⟨rfl,rfl⟩ | ⟨p,rfl⟩⟩:=hz
  · exact pyNext_zip_end Z D1 D2 e hI hO s1 s2 hk hQ
  · cases hp:s.heap.get? p with
    | some o=>exact pyNext_zipL_end Z D1 D2 e ⟨o,hp⟩ hI s1 s2 hk fun h' tk kk=>hQ h' tk fun c o c1 _ c3 c4 q=>kk c o c1 c3 c4 q
    | none =>
      have ty:s.TypeIs (.ref z) "zip":=⟨_,e,rfl⟩
      unfold pyNext
      refine wpAny_bind (wpAny_attempt (wpAny_callSpecial?_slot (name:=Str.ofString "__next__") ty F.slot_zip_next (wpAny_call_entry F.slot_zip_next ty F.entry_zip_next ?_ (F.args_zip_next_1 _))))
      refine zipD_end Z D1 D2 e hp hI hO s1 s2 hk fun h' e kk ho tk=>?_
      obtain ⟨o,e1,e2⟩:=ho
      exact wpAny_bind (wpAny_isInstance (T:="StopIteration") (b:=true) ⟨o,e1,e2⟩ isSubtype_stop (wpAny_pure (hQ h' tk kk)))
end
end M3
namespace L3
open PySem PySem.Spec PyProof.Rows L2 M3
section
variable {X:Cx} {pins:List (Addr×Obj)} {σ:L2.St} {H:Hp} {s:Shared} {h':Heap}
theorem turn_zipN {P:Program} {w:World} {K:PySem.W.Frag} {y:Str} {pt:Pos} {b1 b2:Bool} {a1 a2 z TI TO i1 i2:Addr} (Z:∀ m,(∀ a∈[a1,a2],a < m)→(∀ a∈[z,TI,TO,i1,i2],m≤a)→ZAp z TI TO i1 i2 [i1,a1] [i2,a2])
    (m:Nat) (h1:∀ a∈[a1,a2],a < m) (h2:∀ a∈[z,TI,TO,i1,i2],m≤a) :
    Turn P w K (.Name y pt) (Itz K b1 b2 a1 a2) [z,TI,TO,i1,i2] z (fun i h=>ZQ h z TI TO∧IsPair h TI (.ref i1) (.ref i2)∧(∃ a b,IsPair h TO a b)∧SeqIt h b1 i1 a1 i∧SeqIt h b2 i2 a2 i) where
  mem:=by simp
  obj:=fun i h ⟨e1,e2,⟨a,b,e3⟩,e4,e5⟩ c hc=>by
    simp only [List.mem_cons,List.not_mem_nil,or_false] at hc
    rcases hc with rfl | rfl | rfl | rfl | rfl
    · obtain ⟨o,q1,_,q2⟩:=e1.obj
      exact ⟨o,q1,q2⟩
    · exact ⟨_,e2,fun v q=>nomatch q⟩
    · exact ⟨_,e3,fun v q=>nomatch q⟩
    · exact e4.obj
    · exact e5.obj
  keep:=fun i h h' ⟨e1,e2,⟨a,b,e3⟩,e4,e5⟩ k=>⟨by obtain ⟨v,fl,q,r⟩:=e1; exact ⟨v,fl,k z (by simp) _ q,r⟩,k TI (by simp) _ e2,⟨a,b,k TO (by simp) _ e3⟩,e4.keeps fun o e=>k i1 (by simp) o e,e5.keeps fun o e=>k i2 (by simp) o e⟩
  item:=by
    intro X hP hw hK hc i pins s σ H E I hf ⟨e1,e2,⟨a,b,e3⟩,e4,e5⟩ hg
    subst hP hw hK
    obtain ⟨xs,ys,q1,q2,l1,l2⟩:=hg
    obtain ⟨its1,v1,p1,_⟩:=Inv_seq I q1
    obtain ⟨its2,v2,p2,_⟩:=Inv_seq I q2
    have ZZ:=Z m h1 h2
    have n1:a1≠i1:=Nat.ne_of_lt (Nat.lt_of_lt_of_le (h1 a1 (by simp)) (h2 i1 (by simp)))
    have n2:a2≠i2:=Nat.ne_of_lt (Nat.lt_of_lt_of_le (h1 a2 (by simp)) (h2 i2 (by simp)))
    have D1:=drawsSeq (prog:=X.prog) (w:=X.w) (in1_handled (I.ok.hd hc)) b1 i1 a1 n1 its1.toArray
    have D2:=drawsSeq (prog:=X.prog) (w:=X.w) (in1_handled (I.ok.hd hc)) b2 i2 a2 n2 its2.toArray
    have hl1:=v1.length
    have hl2:=v2.length
    refine zipQ_item ZZ D1 D2 e1 e2 e3 ⟨e4,p1⟩ ⟨e5,p2⟩ (by simp; lia) (by simp; lia) fun x y g tk px py f1 f2 f3 f4 f5 f6 f7=>⟨_,rfl,?_⟩
    refine wpAny_pure ?_
    obtain ⟨x1,hx1⟩:∃ x1,xs[i]?=some x1:=⟨xs[i],by simp [l1]⟩
    obtain ⟨y1,hy1⟩:∃ y1,ys[i]?=some y1:=⟨ys[i],by simp [l2]⟩
    obtain ⟨u1,hu1,r1⟩:=v1.get hx1
    obtain ⟨u2,hu2,r2⟩:=v2.get hy1
    have ex:x=u1:=by have z:its1.toArray[i]?=some x:=px; simp [hu1] at z; exact z.symm
    have ey:y=u2:=by have z:its2.toArray[i]?=some y:=py; simp [hu2] at z; exact z.symm
    subst ex ey
    obtain ⟨oz,ez,_⟩:=e1.obj
    have zlt:z≠s.heap.objs.size:=Nat.ne_of_lt (Heap.lt_size ez)
    have I1:Inv X pins σ H {s with heap:=g,toks:=tk}:=Inv_turneds (ch:=[z,TI,TO,i1,i2]) I hf fun c o hc' e=>by
      simp only [List.mem_cons,List.not_mem_nil,or_false,not_or] at hc'
      exact f7 c o hc'.1 hc'.2.2.1 hc'.2.2.2.1 hc'.2.2.2.2 e
    have fT:=I.fpOk (b:=s.heap.objs.size) (Nat.le_refl _) (I.hok.fresh (Nat.le_refl _))
    have gT:g.get? s.heap.objs.size=some {cls:=.type "tuple",data:=.seq #[x,y]}:=f5
    have I2:Inv X pins σ (upd H s.heap.objs.size (.tup [x1,y1])) {s with heap:=g,toks:=tk}:=Inv_track I1 fT I.sz ⟨by show 2≤sizeLine; decide,[x,y],.cons r1 (.cons r2 .nil),⟨_,gT,rfl,_,rfl⟩⟩
    refine ⟨.ref s.heap.objs.size,_,I2,rfl,⟨_,x1,y1,rfl,fT.1,rfl,fun zs hz=>by rw [Inv_seq_inj I hz q1]; exact hx1,fun zs hz=>by rw [Inv_seq_inj I hz q2]; exact hy1⟩,
      ⟨f1,f7 TI _ ZZ.tiz ZZ.tito ZZ.ti1 ZZ.ti2 e2,f2,f3.1,f4.1⟩,fun c hc'=>?_⟩
    have lt:c < s.heap.objs.size:=by
      simp only [List.mem_cons,List.not_mem_nil,or_false] at hc'
      rcases hc' with rfl | rfl | rfl | rfl | rfl
      · exact Heap.lt_size ez
      · exact Heap.lt_size e2
      · exact Heap.lt_size e3
      · exact let ⟨o,e,_⟩:=e4.obj; Heap.lt_size e
      · exact let ⟨o,e,_⟩:=e5.obj; Heap.lt_size e
    rw [upd_ne (Nat.ne_of_lt lt)]
    exact (hf c hc').1
  done:=by
    intro X hP hw hK hc i pins s σ H E I hf ⟨e1,e2,⟨a,b,e3⟩,e4,e5⟩ hg
    subst hP hw hK
    obtain ⟨xs,ys,q1,q2,hk⟩:=hg
    obtain ⟨its1,v1,p1,_⟩:=Inv_seq I q1
    obtain ⟨its2,v2,p2,_⟩:=Inv_seq I q2
    have ZZ:=Z m h1 h2
    have n1:a1≠i1:=Nat.ne_of_lt (Nat.lt_of_lt_of_le (h1 a1 (by simp)) (h2 i1 (by simp)))
    have n2:a2≠i2:=Nat.ne_of_lt (Nat.lt_of_lt_of_le (h1 a2 (by simp)) (h2 i2 (by simp)))
    have D1:=drawsSeq (prog:=X.prog) (w:=X.w) (in1_handled (I.ok.hd hc)) b1 i1 a1 n1 its1.toArray
    have D2:=drawsSeq (prog:=X.prog) (w:=X.w) (in1_handled (I.ok.hd hc)) b2 i2 a2 n2 its2.toArray
    have hl1:=v1.length
    have hl2:=v2.length
    refine zipQ_end ZZ D1 D2 e1 e2 e3 ⟨e4,p1⟩ ⟨e5,p2⟩ (by simp; lia) fun g tk k=>⟨rfl,?_⟩
    exact Inv_turneds (ch:=[z,TI,TO,i1,i2]) I hf fun c o hc' e=>by
      simp only [List.mem_cons,List.not_mem_nil,or_false,not_or] at hc'
      exact k c o hc'.1 hc'.2.2.1 hc'.2.2.2.1 hc'.2.2.2.2 e
  self:=fun _ _ _ _ _ st h=>by
    obtain ⟨o,e,ec,_⟩:=st.1.obj
    exact iter_zipX ⟨o,e,ec⟩ h
theorem pi_zipN {a b:Expr} {ta:TA} {p pos:Pos} {y:Str} {pt:Pos} (hg:Gl X "zip") (hm:X.mg "zip"=none) (ha:PA X [a,b] ta) (hs:starEach [a,b] X.env=[(false,eval a X.env),(false,eval b X.env)]:=by rfl) (hs2:starEach [b] X.env=[(false,eval b X.env)]:=by rfl) :
    PI X (.Name y pt) (.Call (.Name "zip" p) [a,b] [] pos) (iZip X.K ta):=by
  intro pins s σ H R I h
  refine Call_ (ld_blt I hg hm boot_zip (PyProof.Rows.callWith_type1 (thn (ha pos pins s σ H _ I h) fun us s1 ⟨vs,H1,I1,r1,q1⟩=>?_) (by rw [hs,hs2]) (by rw [hs2]; rfl)))
  obtain ⟨b1,b2,a1,a2,e,⟨xs,h1⟩,⟨ys,h2⟩,q⟩:=q1
  subst e
  cases r1 with
  | cons r rr =>
    cases rr with
    | cons r' rr =>
      cases rr
      obtain rfl:_=Value.ref a1:=r
      obtain rfl:_=Value.ref a2:=r'
      obtain ⟨its1,v1,p1,_⟩:=Inv_seq I1 h1
      obtain ⟨its2,v2,p2,_⟩:=Inv_seq I1 h2
      have l1:=p1.lt
      have l2:=p2.lt
      refine call_zip p1 p2 fun g f1 f2 f3 f4 f5 f6=>?_
      refine wpAny_pyIter_zip f1 ?_
      refine ⟨s1.heap.objs.size + 4,[s1.heap.objs.size + 4,s1.heap.objs.size + 2,s1.heap.objs.size + 3,s1.heap.objs.size,s1.heap.objs.size + 1],_,_,H1,rfl,I1.kept (t':=s1.toks) f6,turn_zipN (b1:=b1) (b2:=b2) (a1:=a1) (a2:=a2) (fun _ _ _=>zap_new _ a1 a2 l1 l2) s1.heap.objs.size (fun a ha'=>?_) (fun a ha'=>ge5 ha'),⟨⟨_,false,f1,.inl ⟨rfl,rfl⟩⟩,f2,⟨_,_,f3⟩,f4,f5⟩,fun b hb=>I1.fpOk (ge5 hb) (I1.hok.fresh (ge5 hb)),q⟩
      simp only [List.mem_cons,List.not_mem_nil,or_false] at ha'
      rcases ha' with rfl | rfl <;> assumption
end
end L3
end
section
set_option maxHeartbeats 4000000
namespace M3
open PySem PyProof.Rows
theorem ev_wp {α:Type} {cmp:Nat→Nat→(Bool→Shared→Prop)→Shared→Prop} {lt:Nat→Nat→Option Bool} {Q:α→Shared→Prop} {s:Shared} (hc:∀ i j b C,lt i j=some b→C b s→cmp i j C s) :
    ∀ (t:PySem.W.KasT α) (a:α),evT lt t=some a→Q a s→t.kasWp cmp Q s
  | .ret x,a,e,q=>by cases e; exact q
  | .ask i j k,a,e,q=>by
    unfold evT at e
    cases h:lt i j with
    | none=>rw [h] at e; cases e
    | some b =>
      rw [h] at e
      exact hc i j b _ h (ev_wp hc (k b) a e q)
inductive TupsAre (h:Heap):List Value→List (List Int)→Prop
  | nil:TupsAre h [] []
  | cons {x:Addr} {o:Obj} {xs:Array Value} {k:Nat} {ns:List Int} {vs:List Value} {ts:List (List Int)}:h.get? x=some o→o.cls=.type "tuple"→o.data=.seq xs k→IntsAre xs.toList ns→TupsAre h vs ts→TupsAre h (.ref x::vs) (ns::ts)
theorem TupsAre.len {h:Heap} {vs:List Value} {ts:List (List Int)} (t:TupsAre h vs ts):vs.length=ts.length:=by
  induction t with
  | nil=>rfl
  | cons _ _ _ _ _ ih=>simp [ih]
theorem TupsAre.keep {h h':Heap} {vs:List Value} {ts:List (List Int)} (t:TupsAre h vs ts) (k:∀ b o,o.cls=.type "tuple"→h.get? b=some o→h'.get? b=some o):TupsAre h' vs ts:=by
  induction t with
  | nil=>exact .nil
  | cons a b c d _ ih=>exact .cons (k _ _ b a) b c d ih
theorem TupsAre.at {h:Heap} {vs:List Value} {ts:List (List Int)} (t:TupsAre h vs ts) {i:Nat} {a:List Int} (e:ts[i]?=some a) :
    ∃ x o xs k,vs.getD i .none=.ref x∧h.get? x=some o∧o.data=.seq xs k∧IntsAre xs.toList a:=by
  induction t generalizing i with
  | nil=>simp at e
  | @cons x o xs k ns vs ts p q r u _ ih =>
    cases i with
    | zero=>cases e; exact ⟨x,o,xs,k,rfl,p,r,u⟩
    | succ i =>
      obtain ⟨x',o',xs',k',h1,h2⟩:=ih (i:=i) (by simpa using e)
      exact ⟨x',o',xs',k',by simpa using h1,h2⟩
theorem ints_len {vs:List Value} {ns:List Int} (h:IntsAre vs ns):vs.length=ns.length:=by
  induction h with
  | nil=>rfl
  | cons _ _ _ ih=>simp [ih]
section
variable {prog:Program} {w:World} {A:Around} {E:Value→Shared→Prop} {s:Shared}
theorem lex_wp {b fin:Bool} {Q:Bool→Shared→Prop} {xs ys:List Value} {ms ns:List Int} (h1:IntsAre xs ms) (h2:IntsAre ys ns) (i:Nat) (q:Q (lexI fin (ms.zip ns)) s) :
    PySem.W.KatLex prog w A b fin Q (xs.zip ys) i s:=by
  induction h1 generalizing ys ns i with
  | nil=>exact q
  | cons m t _ ih =>
    cases h2 with
    | nil=>exact q
    | cons n u h2 =>
      refine PySem.W.kat_cons (wpAny_eqBool_int (PySem.W.kat_go (fun e=>PySem.W.kat_yes (ih h2 (i + 1) ?_)) fun e=>PySem.W.kat_no ?_))
      · unfold lexI at q
        simp only [List.zip_cons_cons] at q
        rw [if_pos e] at q
        exact q
      · simp only [List.zip_cons_cons] at q
        unfold lexI at q
        rw [e] at q
        cases hb:(b&&i == 0) with
        | true=>exact oneLt_int q
        | false=>exact PySem.W.kat_one _ _ (lt_int q)
theorem tups_kat {vs:List Value} {ts:List (List Int)} (t:TupsAre s.heap vs ts) (hn:ts.all (fun t=>!t.isEmpty)=true):∃ fs,PySem.W.KatTups s.heap vs fs∧fs.length=ts.length∧∀ v∈fs,∃ i u,v=Value.int i u:=by
  induction t with
  | nil=>exact ⟨[],trivial,rfl,by simp⟩
  | @cons x o xs k ns vs ts p q r u _ ih =>
    simp only [List.all_cons,Bool.and_eq_true] at hn
    obtain ⟨fs,a,b,c⟩:=ih hn.2
    cases hx:xs.toList with
    | nil=>rw [hx] at u; cases u; simp at hn
    | cons v l =>
      rw [hx] at u
      cases u with
      | cons n t u =>
        refine ⟨.int n t::fs,⟨⟨x,o,xs,k,rfl,p,q,r,by rw [← Array.getElem?_toList,hx]; rfl⟩,a⟩,by simp [b],?_⟩
        intro v hv
        rcases List.mem_cons.mp hv with rfl | hv
        · exact ⟨_,_,rfl⟩
        · exact c v hv
set_option tactic.hygienic true in
theorem list_sort_tups {a:Addr} {vs:List Value} {ts:List (List Int)} {n:Nat} {p:List Nat} {P:PySem.Fin→Shared→Prop} (ho:s.heap.get? a=some (seqObj "list" vs.toArray n))
    (hT:TupsAre s.heap vs ts) (hp:srtP ts=some p) (h:P (.done (.ret .none)) {s with heap:=sortedHeap s.heap a vs (p.map fun i=>vs.getD i .none).toArray}) :
    wpAny (model prog w) A (Builtin.«list.sort» ⟨[.ref a],[]⟩) P E s:=by
  have hlen:=hT.len
  have h64:vs.length < 64:=by
    unfold srtP at hp
    split at hp
    · lia
    · split at hp
      · lia
      · cases hp
  rw [list_sort_plain]
  have ha:a < s.heap.objs.size:=Heap.lt_size ho
  refine wpAny_bind (listItems_at ho rfl ?_)
  refine wpAny_bind (listUpdate_at ho rfl ?_ (by rw [List.size_toArray,sizeLine_eq]; lia) (Nat.zero_le _))
  obtain (⟨e1,ho1⟩):∃ e1,(s.heap.update a (Obj.mapSeq fun _=>#[])).get? a=some (seqObj "list" #[] e1):=⟨_,get?_update_seq ho (fun _=>#[])⟩
  refine wpAny_bind (seqEpoch_at ho1 rfl ?_)
  refine wpAny_bind (wpAny_newTuple ?_ (by show vs.length≤_; rw [sizeLine_eq]; lia))
  refine wpAny_bind (wpAny_newList ?_ (Nat.zero_le _))
  refine wpAny_holding ?_
  have old:∀ b,b≠a→b < s.heap.objs.size→(((s.heap.update a (Obj.mapSeq fun _=>#[])).push (seqObj "tuple" vs.toArray 0)).push (seqObj "list" #[] 0)).get? b=s.heap.get? b:=fun b hb hlt=>by
    rw [Heap.get?_push_ne _ _ _ (by rw [size_push',Heap.size_update]; exact Nat.ne_of_lt (Nat.lt_succ_of_lt hlt)),Heap.get?_push_ne _ _ _ (by rw [Heap.size_update]; exact Nat.ne_of_lt hlt),Heap.get?_update_ne _ _ _ _ hb]
  have ho6:(((s.heap.update a (Obj.mapSeq fun _=>#[])).push (seqObj "tuple" vs.toArray 0)).push (seqObj "list" #[] 0)).get? a=some (seqObj "list" #[] e1):=by
    rw [Heap.get?_push_ne _ _ _ (by rw [size_push',Heap.size_update]; exact Nat.ne_of_lt (Nat.lt_succ_of_lt ha)),Heap.get?_push_ne _ _ _ (by rw [Heap.size_update]; exact Nat.ne_of_lt ha)]
    exact ho1
  have hT6:=hT.keep (h':=((s.heap.update a (Obj.mapSeq fun _=>#[])).push (seqObj "tuple" vs.toArray 0)).push (seqObj "list" #[] 0)) fun b o hc e=>by
    rw [old b (fun q=>by subst q; rw [ho] at e; cases e; revert hc; show Value.type "list"=Value.type "tuple"→False; decide) (Heap.lt_size e)]; exact e
  show wpAny (model prog w) A _ P E {s with heap:=((s.heap.update a (Obj.mapSeq fun _=>#[])).push (seqObj "tuple" vs.toArray 0)).push (seqObj "list" #[] 0)}
  dsimp only
  by_cases h2:vs.toArray.size < 2
  · rw [if_pos h2,if_pos h2]
    have h2':ts.length < 2:=by rw [List.size_toArray] at h2; lia
    unfold srtP at hp
    rw [if_pos h2'] at hp
    cases hp
    refine wpAny_bind (wpAny_pure ?_)
    rw [StateT.run_pure]
    refine wpAny_bind (wpAny_pure ?_)
    dsimp only
    have e2:(arrOf (SortSt.mk' general' (vs.toArray.zip vs.toArray) #[] 7 none)).map (·.2)=((List.range ts.length).map fun i=>vs.getD i Value.none).toArray:=by
      show (vs.toArray.zip vs.toArray).map (·.2)=_
      rw [← hlen]
      match vs,h2 with
      | [],_=>simp
      | [v],_=>simp
      | _::_::_,h2=>exact absurd h2 (by rw [List.size_toArray,List.length_cons,List.length_cons]; lia)
    rw [e2]
    refine wpAny_bind (seqEpoch_at ho6 rfl ?_)
    refine wpAny_bind (listUpdate_at ho6 rfl ?_ (Nat.zero_le _) (by rw [List.size_toArray,List.length_map,List.length_range,sizeLine_eq]; lia))
    simp only [bne_self_eq_false,Bool.false_eq_true,if_false]
    exact wpAny_pure h
  · rw [if_neg h2,if_neg h2]
    have h2':¬ ts.length < 2:=by rw [List.size_toArray] at h2; lia
    unfold srtP at hp
    rw [if_neg h2'] at hp
    split at hp
    case isFalse=>cases hp
    case isTrue hh =>
    obtain (⟨p',hev,hpp⟩):∃ p',evT (ltAt ts) (PySem.W.kas_sort ts.length)=some p'∧p'.toList=p:=by
      split at hp
      · rename_i p' he
        split at hp
        · cases hp; exact ⟨p',he,rfl⟩
        · cases hp
      · cases hp
    obtain (⟨fs,k1,k2,k3⟩):=tups_kat (s:={s with heap:=((s.heap.update a (Obj.mapSeq fun _=>#[])).push (seqObj "tuple" vs.toArray 0)).push (seqObj "list" #[] 0)}) hT6 hh.2
    refine wpAny_bind (PySem.W.kat_kind (T:=.type "int") k1 (by lia) (fun v hv=>by obtain (⟨i,u,rfl⟩):=k3 v hv; exact PySem.W.Looks.of_pure rfl) (by decide) ?_)
    refine wpAny_bind (wpAny_mono (PySem.W.kat_run (ks:=vs) (Q:=fun st' s'=>s'={s with heap:=((s.heap.update a (Obj.mapSeq fun _=>#[])).push (seqObj "tuple" vs.toArray 0)).push (seqObj "list" #[] 0)}∧arrOf st'=p'.map (PySem.W.kas_item (vs.toArray.zip vs.toArray))∧failedOf st'=none∧p'.size=vs.length)
      (G:=fun q s'=>q=p'∧s'={s with heap:=((s.heap.update a (Obj.mapSeq fun _=>#[])).push (seqObj "tuple" vs.toArray 0)).push (seqObj "list" #[] 0)})
      rfl (by lia) h64 (fun q st' s' a1 a2 a3 a4=>?_) ?_) ?_ fun _ _ e=>e)
    · obtain (⟨rfl,rfl⟩):=a4
      exact ⟨rfl,a2,a3,a1⟩
    · rw [hlen]
      refine ev_wp (fun i j b C e c=>?_) _ _ hev ⟨rfl,rfl⟩
      unfold ltAt at e
      cases ei:ts[i]? with
      | none=>rw [ei] at e; cases e
      | some x =>
        cases ej:ts[j]? with
        | none=>rw [ei,ej] at e; cases e
        | some y =>
          rw [ei,ej] at e
          cases e
          obtain (⟨x1,o1,xs1,n1,f1,g1,d1,i1⟩):=hT6.at ei
          obtain (⟨x2,o2,xs2,n2,f2,g2,d2,i2⟩):=hT6.at ej
          show wpAny _ _ (keyLt' _ (vs.getD i .none) (vs.getD j .none)) _ _ _
          rw [f1,f2]
          refine PySem.W.kat_lt g1 d1 g2 d2 (lex_wp i1 i2 0 ?_)
          have z1:=ints_len i1
          have z2:=ints_len i2
          rw [show xs1.size=x.length by rw [← z1,Array.length_toList],show xs2.size=y.length by rw [← z2,Array.length_toList]]
          exact c
    · rintro ⟨⟨⟩,st'⟩ s' ⟨rfl,har,hf,hsz⟩
      dsimp only
      rw [PySem.W.kat_snds rfl har,hpp]
      have hpl:p.length=vs.length:=by rw [← hpp,Array.length_toList,hsz]
      refine wpAny_bind (seqEpoch_at ho6 rfl ?_)
      refine wpAny_bind (listUpdate_at ho6 rfl ?_ (Nat.zero_le _) (by rw [List.size_toArray,List.length_map,sizeLine_eq]; lia))
      rw [hf]
      simp only [bne_self_eq_false,Bool.false_eq_true,if_false]
      exact wpAny_pure h
theorem sorted_tups {l:Addr} {vs:List Value} {ts:List (List Int)} {p:List Nat} {Q:Value→Shared→Prop} (hl:s.heap.IsList l vs.toArray) (hT:TupsAre s.heap vs ts) (hp:srtP ts=some p)
    (h:Q (.ref (s.heap.objs.size + 1)) {s with heap:=sortedAll s.heap vs (p.map fun i=>vs.getD i .none).toArray}) :
    wpAny (model prog w) A (call (.builtin "sorted") [.ref l]) Q E s:=by
  have hlen:=hT.len
  have h64:vs.length < 64:=by
    unfold srtP at hp
    split at hp
    · lia
    · split at hp
      · lia
      · cases hp
  refine Calls.call_function_entry kind_sorted plain_sorted entry_sorted (args_sorted1 _) ?_
  unfold Builtin.«sorted»
  refine wpAny_bind (m:=checkCount "sorted" 1 1 _) (wpAny_pure ?_)
  refine wpAny_bind (collect_list hl ?_ (by rw [sizeLine_eq]; lia))
  refine wpAny_bind (wpAny_newList ?_ (by rw [sizeLine_eq]; lia))
  have hsz:((s.heap.push (seqObj "list" #[] 0)).update s.heap.objs.size (Obj.mapSeq (·++vs.toArray))).objs.size=s.heap.objs.size + 1:=by
    rw [Heap.size_update,size_push']
  have hoL:(((s.heap.push (seqObj "list" #[] 0)).update s.heap.objs.size (Obj.mapSeq (·++vs.toArray))).push (seqObj "list" vs.toArray 0)).get? (s.heap.objs.size + 1)=some (seqObj "list" vs.toArray 0):=by
    rw [← hsz]; exact Heap.get?_push_size _ rfl
  have keep:∀ b o,s.heap.get? b=some o→(((s.heap.push (seqObj "list" #[] 0)).update s.heap.objs.size (Obj.mapSeq (·++vs.toArray))).push (seqObj "list" vs.toArray 0)).get? b=some o:=fun b o q=>by
    have hlt:b < s.heap.objs.size:=Heap.lt_size q
    rw [Heap.get?_push_ne _ _ _ (by rw [hsz]; exact Nat.ne_of_lt (Nat.lt_succ_of_lt hlt)),Heap.get?_update_ne _ _ _ _ (Nat.ne_of_lt hlt),Heap.get?_push_ne _ _ _ (Nat.ne_of_lt hlt)]
    exact q
  show wpAny _ _ _ _ _ {s with heap:=((s.heap.push (seqObj "list" #[] 0)).update s.heap.objs.size (Obj.mapSeq (·++vs.toArray))).push (seqObj "list" vs.toArray 0)}
  rw [hsz]
  refine wpAny_bind (wpAny_holding (wpAny_call_entry slot_list_sort ⟨_,hoL,rfl⟩ entry_list_sort (list_sort_tups hoL (hT.keep fun b o _ e=>keep b o e) hp ⟨_,rfl,?_⟩) (args_list_sort _)))
  exact wpAny_pure ⟨_,rfl,h⟩
end
end M3
end
section
namespace L3
open PySem PySem.Spec PyProof.Rows L2 M3
inductive TupsL (K:PySem.W.Frag) (H:Hp):List V→List (List Int)→Prop
  | nil:TupsL K H [] []
  | cons {a:Addr} {ns:List Int} {vs:List V} {ts:List (List Int)}:SqT K H a (ns.map V.int)→TupsL K H vs ts→TupsL K H (.ref a::vs) (ns::ts)
theorem vals_at:∀ {xs:List V} {us:List Value},Vals xs us→∀ i,i < xs.length→RelV (xs.getD i .non) (us.getD i .none)
  | _,_,.nil,i,h=>by simp at h
  | _,_,.cons r t,0,_=>r
  | _,_,.cons r t,i + 1,h=>vals_at t i (by simpa using h)
theorem vals_pick {xs:List V} {us:List Value} (v:Vals xs us):∀ p:List Nat,(∀ i∈p,i < xs.length)→Vals (p.map fun i=>xs.getD i .non) (p.map fun i=>us.getD i .none)
  | [],_=>.nil
  | i::p,h=>.cons (vals_at v i (h i List.mem_cons_self)) (vals_pick v p fun j hj=>h j (List.mem_cons_of_mem _ hj))
set_option tactic.hygienic true in
theorem srtP_lt {ts:List (List Int)} {p:List Nat} (e:srtP ts=some p):ts.length < 64∧p.length=ts.length∧∀ i∈p,i < ts.length:=by
  unfold srtP at e
  split at e
  next h=>cases e; exact ⟨by lia,by simp,fun i hi=>List.mem_range.mp hi⟩
  next h =>
    split at e
    next hh =>
      split at e
      next q _ =>
        split at e
        next hq =>
          cases e
          simp only [Bool.and_eq_true,List.all_eq_true,decide_eq_true_eq,beq_iff_eq] at hq
          exact ⟨hh.1,by rw [Array.length_toList]; exact hq.2,hq.1⟩
        next=>cases e
      next=>cases e
    next=>cases e
section
variable {X:Cx}
theorem tups_are {pins:List (Addr×Obj)} {σ:L2.St} {H:Hp} {s:Shared} (I:Inv X pins σ H s) {vs:List V} {ts:List (List Int)} (t:TupsL X.K H vs ts) {us:List Value} (v:Vals vs us):TupsAre s.heap us ts:=by
  induction t generalizing us with
  | nil=>cases v; exact .nil
  | cons h _ ih =>
    cases v with
    | cons r v =>
      cases r
      obtain ⟨its,q,⟨o,ho,hc,n,hd⟩,z⟩:=I.tuple h
      exact .cons ho hc hd (by simpa using ints_are q) (ih v)
noncomputable def rSortT (K:PySem.W.Frag):List V→Hp→VK→Prop:=fun xs H Q=>∃ (a:Addr) (vs:List V) (ts:List (List Int)) (p:List Nat),xs=[.ref a]∧SqL K H a vs∧TupsL K H vs ts∧srtP ts=some p∧∀ l,H l=none→Q (.ref l) (upd H l (.lst (p.map fun i=>vs.getD i .non)))
theorem tupsL_len {K:PySem.W.Frag} {H:Hp} {vs:List V} {ts:List (List Int)} (t:TupsL K H vs ts):vs.length=ts.length:=by
  induction t with
  | nil=>rfl
  | cons _ _ ih=>simp [ih]
theorem call_sortT:CallR X (.builtin "sorted") (rSortT X.K):=by
  intro pins s σ H xs us Q I r h
  obtain ⟨a,vs,ts,p,rfl,hq,ht,hp,q⟩:=h
  obtain rfl:=one_val r
  obtain ⟨its,v,pl,hz⟩:=I.list hq
  obtain ⟨o,ho,hcl,n,hd⟩:=pl.isList
  obtain ⟨z1,z2,z3⟩:=srtP_lt hp
  have hl:=tupsL_len ht
  refine sorted_tups (vs:=its) (ts:=ts) ⟨o,ho,hcl,n,hd⟩ (tups_are I ht v) hp ?_
  obtain ⟨e,he⟩:=sortedAll_at s.heap its (p.map fun i=>its.getD i .none).toArray
  exact ⟨.ref (s.heap.objs.size + 1),_,I.laid (t':=s.toks) (fun b u e=>sortedAll_old e) (Nat.le_succ _) (show ObjOk X.prog X.w _ _ _ (.lst (p.map fun i=>vs.getD i .non)) from ⟨by rw [List.length_map,sizeLine_eq]; lia,_,e,vals_pick v p (by rw [hl]; exact z3),by simpa [seqObj] using he⟩),rfl,q _ (I.hok.fresh (Nat.le_succ _))⟩
end
example:srtP [[0,0,0],[1,0,1],[1,1,0],[2,1,1],[4,2,0],[5,2,1]]=some [0,1,2,3,4,5]:=by decide +kernel
example:srtP [[0,0,0],[1,0,1],[4,0,2],[1,1,0],[2,1,1],[5,1,2]]=some [0,1,3,4,2,5]:=by decide +kernel
end L3
end
section
namespace MP
open PySem
inductive FV where
  | non | bl (b:Bool) | int (i:Int) | str (s:Str)
  | tup (xs:List FV) | lst (xs:List FV) | obj (c:String) (ns:List String) (vs:List FV) | scr (ns:List Int) | tab (kvs:List ((Int×Int)×Int)) | msk (ks:List (Int×Int))
inductive MV where
  | f (x:FV) | ref (a:Nat) | tup (xs:List MV) | exc (c:String)
inductive Cell where
  | lst (xs:List MV) | obj (c:String) (fs:List (String×MV)) | dic (ks:List Int) | tab (kvs:List ((Int×Int)×Int)) | msk (ks:List (Int×Int)) | code | dead
noncomputable abbrev MH:=List Cell
noncomputable abbrev MSt:=List (Option MV)
inductive R (α:Type) where
  | ok (x:α) (h:MH) | exc (c:String) (h:MH) | stuck
noncomputable abbrev RD {γ δ:Sort _} (_k:γ→δ) (τ:Type):Type:=τ
namespace R
noncomputable def bind {α β:Type} (r:R α) (k:α→MH→R β):RD k (R β):=match r with
  | .ok x h=>k x h
  | .exc c h=>.exc c h
  | .stuck=>.stuck
variable {α β:Type}
@[simp] theorem bind_ok {x:α} {h:MH} {k:α→MH→R β}:(R.ok x h).bind k=k x h:=id rfl
@[simp] theorem bind_exc {c:String} {h:MH} {k:α→MH→R β}:(R.exc c h:R α).bind k=.exc c h:=id rfl
@[simp] theorem bind_stuck {k:α→MH→R β}:(R.stuck:R α).bind k=.stuck:=id rfl
end R
noncomputable def opt {α β:Type} (o:Option α) (k:α→R β):RD k (R β):=match o with
  | some x=>k x
  | none=>.stuck
@[simp] theorem opt_some {α β:Type} {x:α} {k:α→R β}:opt (some x) k=k x:=id rfl
@[simp] theorem opt_none {α β:Type} {k:α→R β}:opt none k=.stuck:=id rfl
noncomputable def isNon:MV→Bool
  | .f .non=>true
  | _=>false
noncomputable def allF:List MV→Option (List FV)
  | []=>some []
  | .f x::r=>(allF r).map (x::·)
  | _::_=>none
noncomputable def mkTup (xs:List MV):MV:=match allF xs with
  | some ys=>.f (.tup ys)
  | none=>.tup xs
noncomputable def newL (fz:Bool) (xs:List MV) (h:MH):R MV:=match fz with
  | true=>opt (allF xs) fun ys=>.ok (.f (.lst ys)) h
  | false=>.ok (.ref h.length) (h++[.lst xs])
noncomputable def cellL (h:MH) (a:Nat):Option (List MV):=match h[a]? with
  | some (.lst xs)=>some xs
  | _=>none
noncomputable def seqOf (h:MH):MV→Option (List MV)
  | .f (.tup xs)=>some (xs.map .f)
  | .f (.lst xs)=>some (xs.map .f)
  | .f (.scr ns)=>some (ns.map fun i=>.f (.int i))
  | .tup xs=>some xs
  | .ref a=>cellL h a
  | _=>none
noncomputable def listOf (h:MH):MV→Option (List MV)
  | .f (.lst xs)=>some (xs.map .f)
  | .ref a=>cellL h a
  | _=>none
noncomputable def tupOf:MV→Option (List MV)
  | .f (.tup xs)=>some (xs.map .f)
  | .tup xs=>some xs
  | _=>none
noncomputable def intOf:MV→Option Int
  | .f (.int i)=>some i
  | _=>none
noncomputable def blOf:MV→Option Bool
  | .f (.bl b)=>some b
  | _=>none
@[simp] noncomputable def intsOf:List MV→Option (List Int)
  | []=>some []
  | .f (.int i)::r=>(intsOf r).map (i::·)
  | _::_=>none
@[simp] noncomputable def blsOf:List MV→Option (List Bool)
  | []=>some []
  | .f (.bl i)::r=>(blsOf r).map (i::·)
  | _::_=>none
noncomputable def deepN (h:MH):Nat→MV→Option FV
  | 0,_=>none
  | _ + 1,.f x=>some x
  | n + 1,.tup xs=>(xs.mapM (deepN h n)).map .tup
  | n + 1,.ref a=>(cellL h a).bind fun xs=>(xs.mapM (deepN h n)).map .lst
  | _ + 1,.exc _=>none
noncomputable def deep (h:MH) (v:MV):Option FV:=deepN h 5 v
noncomputable def cellsN (h:MH):Nat→MV→List Nat
  | 0,_=>[]
  | _ + 1,.f _=>[]
  | n + 1,.tup xs=>xs.flatMap (cellsN h n)
  | n + 1,.ref a=>a::((cellL h a).getD []).flatMap (cellsN h n)
  | _ + 1,.exc _=>[]
noncomputable def kill (as:List Nat) (h:MH):MH:=h.mapIdx fun i c=>if i∈as then .dead else c
noncomputable def frzV (v:MV) (h:MH):R MV:=opt (deep h v) fun x=>.ok (.f x) (kill (cellsN h 5 v) h)
noncomputable def sOk (x:Str):Bool:=x.cps.all (· < 0x110000)
noncomputable def isD:Nat→FV→Bool
  | _ + 1,.non=>true
  | _ + 1,.bl _=>true
  | _ + 1,.int _=>true
  | _ + 1,.str s=>sOk s
  | n + 1,.tup xs=>xs.all (isD n)
  | n + 1,.lst xs=>xs.all (isD n)
  | _,_=>false
mutual
noncomputable def eqD:FV→FV→Bool
  | .non,.non=>true
  | .bl a,.bl b=>a == b
  | .bl a,.int j=>(if a then 1 else 0) == j
  | .int i,.bl b=>i == (if b then 1 else 0)
  | .int a,.int b=>a == b
  | .str a,.str b=>a == b
  | .tup xs,.tup ys=>eqDs xs ys
  | .lst xs,.lst ys=>eqDs xs ys
  | _,_=>false
noncomputable def eqDs:List FV→List FV→Bool
  | [],[]=>true
  | x::xs,y::ys=>eqD x y&&eqDs xs ys
  | _,_=>false
end
noncomputable def eqF (x y:FV):Option Bool:=if isD 8 x=true∧isD 8 y=true then some (eqD x y) else none
noncomputable def inF (x:FV) (ys:List FV):Option Bool:=if isD 8 x=true∧ys.all (isD 8)=true then some (ys.any fun y=>eqD y x) else none
inductive BO where
  | add | sub | mul | fdiv | mod | pow
inductive CO where
  | lt | le | gt | ge | eq | ne | inn | nin
noncomputable def big:Nat:=2 ^ 4096
noncomputable def mulOk (i j:Int):Prop:=i.natAbs < 2 ^ 64∨j.natAbs < 2 ^ 64∨(i.natAbs < big∧j.natAbs < big)
noncomputable def divOk (i j:Int):Prop:=0 < j∧(j < 1073741824∨j.natAbs < big)
open Classical in
noncomputable def intBin:BO→Int→Int→Option Int
  | .add,i,j=>some (i + j)
  | .sub,i,j=>some (i - j)
  | .mul,i,j=>if mulOk i j then some (i * j) else none
  | .fdiv,i,j=>if divOk i j then some (i / j) else none
  | .mod,i,j=>if 0 < j then some (i % j) else none
  | .pow,i,j=>if 0≤j∧j≤1000000∧i.natAbs < 2 ^ 64 then some (i ^ j.toNat) else none
noncomputable def sizeL:Nat:=4194304
open Classical in
noncomputable def binV (fz:Bool) (op:BO) (x y:MV) (h:MH):R MV:=match intOf x,intOf y with
  | some i,some j=>opt (intBin op i j) fun k=>.ok (.f (.int k)) h
  | none,some j=>match op with
    | .mul=>opt (listOf h x) fun xs=>if -(2 ^ 63)≤j∧j < 2 ^ 63∧xs.length * j.toNat≤sizeL then newL fz (List.replicate j.toNat xs).flatten h else .stuck
    | _=>.stuck
  | none,none=>match op with
    | .add=>match tupOf x,tupOf y with
      | some xs,some ys=>if xs≠[]∧xs.length + ys.length≤sizeL then .ok (mkTup (xs++ys)) h else .stuck
      | _,_=>opt (listOf h x) fun xs=>opt (listOf h y) fun ys=>if xs.length + ys.length≤sizeL then newL fz (xs++ys) h else .stuck
    | _=>.stuck
  | _,_=>.stuck
noncomputable def intCmp:CO→Int→Int→Option Bool
  | .lt,i,j=>some (decide (i < j))
  | .le,i,j=>some (decide (i≤j))
  | .gt,i,j=>some (decide (j < i))
  | .ge,i,j=>some (decide (j≤i))
  | _,_,_=>none
noncomputable def cmpV (op:CO) (x y:MV) (h:MH):Option Bool:=match op with
  | .eq=>(deep h x).bind fun a=>(deep h y).bind fun b=>eqF a b
  | .ne=>(deep h x).bind fun a=>(deep h y).bind fun b=>(eqF a b).map (!·)
  | .inn=>(deep h x).bind fun a=>(seqOf h y).bind fun ys=>(ys.mapM (deep h)).bind fun bs=>inF a bs
  | .nin=>(deep h x).bind fun a=>(seqOf h y).bind fun ys=>(ys.mapM (deep h)).bind fun bs=>(inF a bs).map (!·)
  | op=>(intOf x).bind fun i=>(intOf y).bind fun j=>intCmp op i j
noncomputable def ixM (n:Nat) (i:Int):Option Nat:=if 0≤i then (if i < n then some i.toNat else none) else if -(n:Int)≤i then some (i + n).toNat else none
noncomputable def atM (xs:List MV) (i:Int):Option MV:=(ixM xs.length i).bind fun j=>xs[j]?
noncomputable def sIxM (n d:Nat):Option Int→Nat
  | none=>d
  | some i=>if i < 0 then (i + (n:Int)).toNat else min i.toNat n
noncomputable def cutM (xs:List MV) (lo hi:Option Int):List MV:=(xs.drop (sIxM xs.length 0 lo)).take (sIxM xs.length xs.length hi - sIxM xs.length 0 lo)
noncomputable def sliceV (fz:Bool) (x:MV) (lo hi:Option Int) (h:MH):R MV:=match tupOf x with
  | some xs=>.ok (mkTup (cutM xs lo hi)) h
  | none=>opt (seqOf h x) fun xs=>newL fz (cutM xs lo hi) h
noncomputable def setF (n:String) (v:MV):List (String×MV)→List (String×MV)
  | []=>[(n,v)]
  | (k,x)::r=>if k=n then (k,v)::r else (k,x)::setF n v r
inductive T1 where
  | str | int | len | setl | srtT
inductive T2 where
  | idx
inductive Tg where
  | nm (i:Nat) | tp (ts:List Tg)
inductive ME where
  | var (i:Nat) | cI (i:Int) | cB (b:Bool) | cN | cS (s:Str)
 
  | bin (fz:Bool) (op:BO) (a b:ME) | neg (a:ME)
  | cmp (op:CO) (a b:ME)
  | isN (a:ME) | notN (a:ME)
  | and (es:List ME) | or (es:List ME) | not (a:ME) | ite (c a b:ME)
  | tup (es:List ME) | lst (fz:Bool) (es:List ME)
  | sub (a i:ME) | slice (fz:Bool) (a:ME) (lo hi:Option ME)
  | fld (a:ME) (n:String)
  | call (f:String) (es:List ME) | make (fz:Bool) (c:String) (es:List ME) | meth (o:ME) (m:String) (es:List ME)
  | blt (fz:Bool) (n:String) (es:List ME)
  | isI (a:ME) (t:String)
 
  | nearK (a b:ME)
 
 
  | tx1 (o:T1) (a:ME) | tx2 (o:T2) (a b:ME)
 
  | lm (m:String) (o:ME) (es:List ME)
  | comp (fz:Bool) (elt:ME) (tg:Tg) (it:String) (src:List ME) (cond:Option ME) (ncv:Nat) (js:List Nat)
  | frz (e:ME)
inductive MS where
  | set (tg:Tg) (e:ME)
  | setSub (o i e:ME)
  | setFld (o:ME) (n:String) (e:ME)
  | par (i j:Nat) (a b:ME)
  | expr (e:ME)
  | ret (e:ME)
  | ite (c:ME) (a b:List MS)
  | for_ (tg:Tg) (it:String) (src:List ME) (body:List MS)
  | while_ (c:ME) (body:List MS)
  | pass | boom
  | frzS (i:Nat)
structure MDef where
  np:Nat
  ns:Nat
  body:List MS
structure Prog where
  defs:String→Option MDef
  globs:String→Option FV
  meths:String→String→Option String
  subs:String→String→Option Bool
  fok:String→String→Bool
  excs:String→Bool
  word:String→String→Option Str
  words:String→Bool
  xsubs:String→String→Option Bool:=fun _ _=>none
  xcls:String→Bool:=fun _=>false
  xt:Bool:=false
  dfl:String→List Int→Bool:=fun _ _=>false
  mk0:String→Bool:=fun _=>false
  turns:Nat
@[simp] noncomputable def lookF (n:String):List String→List FV→Option FV
  | m::ns,v::vs=>if n=m then some v else lookF n ns vs
  | _,_=>none
noncomputable def fldV (ok:String→String→Bool) (n:String) (v:MV) (h:MH):Option MV:=match v with
  | .f (.obj c ns vs)=>if ok c n=true then (lookF n ns vs).map .f else none
  | .ref a=>match h[a]? with
    | some (.obj c fs)=>if ok c n=true then fs.lookup n else none
    | _=>none
  | _=>none
noncomputable def clsM (m:String) (v:MV) (h:MH):Option String:=match v with
  | .f (.obj c ns _)=>if m∈ns then none else some c
  | .ref a=>match h[a]? with
    | some (.obj c fs)=>if m∈fs.map Prod.fst then none else some c
    | _=>none
  | _=>none
noncomputable def excOf:MV→Option String
  | .exc c=>some c
  | _=>none
@[simp] theorem excOf_exc (c:String):excOf (.exc c)=some c:=rfl
noncomputable def isIV (sub:String→String→Option Bool) (h:MH) (v:MV) (t:String):Option Bool:=match v with
  | .f .non=>some false
  | .f (.bl _)=>some (decide (t="bool") || decide (t="int"))
  | .f (.int _)=>some (decide (t="int"))
  | .f (.str _)=>some (decide (t="str"))
  | .f (.tup _)=>some (decide (t="tuple"))
  | .f (.tab _)=>none
  | .f (.msk _)=>none
  | .f (.lst _)=>some (decide (t="list"))
  | .f (.obj c _ _)=>sub c t
  | .f (.scr _)=>none
  | .tup _=>some (decide (t="tuple"))
  | .ref a=>match h[a]? with
    | some (.lst _)=>some (decide (t="list"))
    | some (.obj c _)=>sub c t
    | _=>none
  | .exc _=>none
noncomputable def lmC (x:MV) (h:MH):Option (List MV):=match x with
  | .ref a=>cellL h a
  | _=>none
noncomputable def insertAt (xs:List MV) (i:Int) (y:MV):List MV:=let k:=sIxM xs.length 0 (some i); xs.take k++y::xs.drop k
noncomputable def setCell (h:MH) (a:Nat) (xs:List MV):MH:=h.set a (.lst xs)
open Classical in
noncomputable def lmV (m:String) (o:MV) (as:List MV) (h:MH):R MV:=match o with
  | .ref a=>opt (cellL h a) fun xs=>match m,as with
    | "append",[y]=>if xs.length < sizeL then .ok (.f .non) (setCell h a (xs++[y])) else .stuck
    | "extend",[z]=>opt (listOf h z) fun ys=>if xs.length + ys.length≤sizeL then .ok (.f .non) (setCell h a (xs++ys)) else .stuck
    | "insert",[u,y]=>opt (intOf u) fun i=>if xs.length < sizeL∧-(2 ^ 63)≤i∧i < 2 ^ 63 then .ok (.f .non) (setCell h a (insertAt xs i y)) else .stuck
    | "reverse",[]=>.ok (.f .non) (setCell h a xs.reverse)
    | "clear",[]=>.ok (.f .non) (setCell h a [])
    | "pop",[]=>opt (xs[xs.length - 1]?) fun y=>.ok y (setCell h a (xs.take (xs.length - 1)))
    | "pop",[u]=>opt (intOf u) fun i=>opt (ixM xs.length i) fun k=>opt (xs[k]?) fun y=>if -(2 ^ 63)≤i∧i < 2 ^ 63 then .ok y (setCell h a (xs.take k++xs.drop (k + 1))) else .stuck
    | _,_=>.stuck
  | _=>.stuck
noncomputable def minI:Int→List Int→Int
  | m,[]=>m
  | m,x::r=>minI (if x < m then x else m) r
noncomputable def maxI:Int→List Int→Int
  | m,[]=>m
  | m,x::r=>maxI (if x > m then x else m) r
noncomputable def bltV (fz:Bool) (n:String) (as:List MV) (h:MH):R MV:=match n,as with
  | "len",[v]=>opt (seqOf h v) fun xs=>.ok (.f (.int xs.length)) h
  | "sum",[v]=>opt ((seqOf h v).bind intsOf) fun xs=>.ok (.f (.int xs.sum)) h
  | "all",[v]=>opt ((seqOf h v).bind blsOf) fun xs=>.ok (.f (.bl (xs.all id))) h
  | "min",[v]=>opt ((seqOf h v).bind intsOf) fun xs=>match xs with | []=>.stuck | x::r=>.ok (.f (.int (minI x r))) h
  | "max",[v]=>opt ((seqOf h v).bind intsOf) fun xs=>match xs with | []=>.stuck | x::r=>.ok (.f (.int (maxI x r))) h
  | "min",[u,v]=>opt (intOf u) fun i=>opt (intOf v) fun j=>.ok (.f (.int (if j < i then j else i))) h
  | "max",[u,v]=>opt (intOf u) fun i=>opt (intOf v) fun j=>.ok (.f (.int (if j > i then j else i))) h
  | "abs",[v]=>opt (intOf v) fun i=>.ok (.f (.int (if i < 0 then -i else i))) h
  | "int",[v]=>match blOf v with
    | some b=>.ok (.f (.int (if b then 1 else 0))) h
    | none=>opt (intOf v) fun i=>.ok (.f (.int i)) h
  | "tuple",[v]=>opt (seqOf h v) fun xs=>.ok (mkTup xs) h
  | "list",[v]=>opt (seqOf h v) fun xs=>newL fz xs h
  | "divmod",[u,v]=>opt (intOf u) fun i=>opt (intOf v) fun j=>if 0 < j∧j < 1073741824 then .ok (.f (.tup [.int (i / j),.int (i % j)])) h else .stuck
  | _,_=>.stuck
noncomputable def cellT (h:MH) (v:MV):Option (List ((Int×Int)×Int)):=match v with
  | .ref a=>match h[a]? with
    | some (.tab kvs)=>some kvs
    | _=>none
  | .f (.tab kvs)=>some kvs
  | _=>none
noncomputable def pairOf (v:MV):Option (Int×Int):=match tupOf v with
  | some [.f (.int a),.f (.int b)]=>some (a,b)
  | _=>none
noncomputable def smallB (k:Int×Int):Bool:=decide ((0≤k.1∧k.1 < 64)∧0≤k.2∧k.2 < 64)
noncomputable def strOf:MV→Option Str
  | .f (.str s)=>some s
  | _=>none
noncomputable def tupI (x:MV):Option (List Int):=(tupOf x).bind intsOf
noncomputable def tx1V (o:T1) (x:MV) (h:MH):R MV:=match o with
  | .str=>opt (intOf x) fun i=>if i.natAbs < 2 ^ 256 then .ok (.f (.str (Str.ofString (toString i)))) h else .stuck
  | .int=>opt (strOf x) fun z=>opt (PySem.intText? z) fun n=>if z.length≤640 then .ok (.f (.int n)) h else .stuck
  | .len=>opt (strOf x) fun z=>if z.length≤sizeL then .ok (.f (.int z.length)) h else .stuck
  | .setl=>opt (listOf h x) fun xs=>opt (xs.mapM pairOf) fun ks=>if ks.all smallB=true∧layP ks=true∧ks.length < 1000000 then .ok (.f (.int ks.length)) h else .stuck
  | .srtT=>opt (listOf h x) fun xs=>opt (xs.mapM tupI) fun ts=>opt (M3.srtP ts) fun p=>newL true (p.map fun i=>xs.getD i (.f .non)) h
noncomputable def refsOf:List MV→Option (List Nat)
  | []=>some []
  | .ref a::r=>(refsOf r).map (a::·)
  | _::_=>none
noncomputable def t2g (o:T2) (x:MV) (h:MH):Option Str:=match o with
  | .idx=>(listOf h x).map fun _=>⟨#[]⟩
@[simp] theorem t2g_idx {x:MV} {h:MH}:t2g .idx x h=(listOf h x).map fun _=>⟨#[]⟩:=rfl
noncomputable def tx2V (o:T2) (x y:MV) (h:MH):R MV:=match o with
  | .idx=>opt ((listOf h x).bind intsOf) fun ns=>opt (intOf y) fun k=>opt (L3.idxI k ns) fun j=>.ok (.f (.int (j:Nat))) h
noncomputable def bestI (w:Int) (n:Int) (r:List Int):Int:=r.foldl (fun b k=>if (if w - k < 0 then -(w - k) else w - k) < (if w - b < 0 then -(w - b) else w - b) then k else b) n
noncomputable def nearV (x y:MV) (h:MH):R MV:=opt (intOf x) fun w=>opt (seqOf h y) fun vs=>opt (intsOf vs) fun ns=>match ns with
  | n::r=>match (h[0]?:Option Cell) with
    | some .code=>.ok (.f (.int (bestI w n r))) h
    | _=>.stuck
  | []=>.stuck
mutual
@[simp] noncomputable def bindT:Tg→MV→MSt→Option MSt
  | .nm i,v,σ=>some (σ.set i (some v))
  | .tp ts,v,σ=>(tupOf v).bind fun vs=>bindTs ts vs σ
@[simp] noncomputable def bindTs:List Tg→List MV→MSt→Option MSt
  | [],[],σ=>some σ
  | t::ts,v::vs,σ=>(bindT t v σ).bind fun σ'=>bindTs ts vs σ'
  | _,_,_=>none
end
noncomputable abbrev Guard:=List (Nat×List MV)
noncomputable def GuardOk (g:Guard) (h:MH):Prop:=∀ p∈g,cellL h p.1=some p.2
noncomputable def guardOf (h:MH):MV→Guard
  | .ref a=>match cellL h a with
    | some xs=>[(a,xs)]
    | none=>[]
  | _=>[]
noncomputable def rlen (lo hi st:Int):Nat:=if lo < hi then ((hi - lo - 1) / st + 1).toNat else 0
noncomputable def itV (it:String) (as:List MV) (h:MH):Option (List MV×Guard):=match it,as with
  | "seq",[v]=>(seqOf h v).map fun xs=>(xs,guardOf h v)
  | "range",[u]=>(intOf u).bind fun n=>if -(2 ^ 62)≤n∧n < 2 ^ 62 then some ((List.range n.toNat).map fun (k:Nat)=>.f (.int k),[]) else none
  | "range",[u,v]=>(intOf u).bind fun a=>(intOf v).bind fun b=>if -(2 ^ 62)≤a∧a < 2 ^ 62∧-(2 ^ 62)≤b∧b < 2 ^ 62 then some ((List.range (b - a).toNat).map fun (k:Nat)=>.f (.int (a + k)),[]) else none
  | "range",[u,v,w]=>(intOf u).bind fun a=>(intOf v).bind fun b=>(intOf w).bind fun s=>if -(2 ^ 30)≤a∧a < 2 ^ 30∧-(2 ^ 30)≤b∧b < 2 ^ 30∧0 < s∧s < 2 ^ 30 then some ((List.range (rlen a b s)).map fun (k:Nat)=>.f (.int (a + k * s)),[]) else none
  | "zip",[u,v]=>(seqOf h u).bind fun xs=>(seqOf h v).map fun ys=>((xs.zip ys).map fun p=>mkTup [p.1,p.2],guardOf h u++guardOf h v)
  | "keys",[.f (.tab kvs)]=>some (kvs.map fun kv=>.f (.tup [.int kv.1.1,.int kv.1.2]),[])
  | "signs",[.f (.str s)]=>some (s.cps.toList.map fun c=>.f (.str ⟨#[c]⟩),[])
  | "items",[.f (.tab kvs)]=>some (kvs.map fun kv=>.f (.tup [.tup [.int kv.1.1,.int kv.1.2],.int kv.2]),[])
  | "enumerate",[v]=>(seqOf h v).map fun xs=>(xs.mapIdx fun k x=>mkTup [.f (.int k),x],guardOf h v)
  | "enum1",[v]=>(seqOf h v).map fun xs=>(xs.mapIdx fun k x=>mkTup [.f (.int ((k + 1:Nat):Int)),x],guardOf h v)
  | _,_=>none
inductive RS where
  | next (σ:MSt) (h:MH) | ret (v:MV) (h:MH) | brk (σ:MSt) (h:MH) | cnt (σ:MSt) (h:MH) | exc (c:String) (h:MH) | stuck
namespace RS
noncomputable def bind (r:RS) (k:MSt→MH→RS):RD k RS:=match r with
  | .next σ h=>k σ h
  | .ret v h=>.ret v h
  | .brk σ h=>.brk σ h
  | .cnt σ h=>.cnt σ h
  | .exc c h=>.exc c h
  | .stuck=>.stuck
@[simp] theorem bind_next {σ:MSt} {h:MH} {k:MSt→MH→RS}:(RS.next σ h).bind k=k σ h:=id rfl
@[simp] theorem bind_ret {v:MV} {h:MH} {k:MSt→MH→RS}:(RS.ret v h).bind k=.ret v h:=id rfl
@[simp] theorem bind_brk {σ:MSt} {h:MH} {k:MSt→MH→RS}:(RS.brk σ h).bind k=.brk σ h:=id rfl
@[simp] theorem bind_cnt {σ:MSt} {h:MH} {k:MSt→MH→RS}:(RS.cnt σ h).bind k=.cnt σ h:=id rfl
@[simp] theorem bind_exc {c:String} {h:MH} {k:MSt→MH→RS}:(RS.exc c h).bind k=.exc c h:=id rfl
@[simp] theorem bind_stuck {k:MSt→MH→RS}:(RS.stuck).bind k=.stuck:=id rfl
noncomputable def turn (r:RS) (k:MSt→MH→RS):RD k RS:=match r with
  | .next σ h=>k σ h
  | .cnt σ h=>k σ h
  | .brk σ h=>.next σ h
  | .ret v h=>.ret v h
  | .exc c h=>.exc c h
  | .stuck=>.stuck
@[simp] theorem turn_next {σ:MSt} {h:MH} {k:MSt→MH→RS}:(RS.next σ h).turn k=k σ h:=id rfl
@[simp] theorem turn_cnt {σ:MSt} {h:MH} {k:MSt→MH→RS}:(RS.cnt σ h).turn k=k σ h:=id rfl
@[simp] theorem turn_brk {σ:MSt} {h:MH} {k:MSt→MH→RS}:(RS.brk σ h).turn k=.next σ h:=id rfl
@[simp] theorem turn_ret {v:MV} {h:MH} {k:MSt→MH→RS}:(RS.ret v h).turn k=.ret v h:=id rfl
@[simp] theorem turn_exc {c:String} {h:MH} {k:MSt→MH→RS}:(RS.exc c h).turn k=.exc c h:=id rfl
@[simp] theorem turn_stuck {k:MSt→MH→RS}:(RS.stuck).turn k=.stuck:=id rfl
end RS
noncomputable def RS.caught (k:String→MH→RS) (r:RS):RD k RS:=match r with
  | .exc c h=>k c h
  | r=>r
noncomputable def R.st {α:Type} (r:R α) (k:α→MH→RS):RD k RS:=match r with
  | .ok x h=>k x h
  | .exc c h=>.exc c h
  | .stuck=>.stuck
@[simp] theorem R.st_ok {α:Type} {x:α} {h:MH} {k:α→MH→RS}:(R.ok x h).st k=k x h:=id rfl
@[simp] theorem R.st_exc {α:Type} {c:String} {h:MH} {k:α→MH→RS}:(R.exc c h:R α).st k=.exc c h:=id rfl
@[simp] theorem R.st_stuck {α:Type} {k:α→MH→RS}:(R.stuck:R α).st k=.stuck:=id rfl
noncomputable def optS {α:Type} (o:Option α) (k:α→RS):RD k RS:=match o with
  | some x=>k x
  | none=>.stuck
@[simp] theorem optS_some {α:Type} {x:α} {k:α→RS}:optS (some x) k=k x:=id rfl
@[simp] theorem optS_none {α:Type} {k:α→RS}:optS none k=.stuck:=id rfl
open Classical in
noncomputable def forL (g:Guard) (bd:MV→MSt→MH→RS):List MV→MSt→MH→RS
  | [],σ,h=>if GuardOk g h then .next σ h else .stuck
  | x::r,σ,h=>if GuardOk g h then (bd x σ h).turn fun σ1 h1=>forL g bd r σ1 h1 else .stuck
open Classical in
noncomputable def compL (g:Guard) (bd:MV→MSt→MH→R (Option MV×MSt)):List MV→List MV→MSt→MH→R (List MV)
  | [],acc,σ,h=>if GuardOk g h then .ok acc h else .stuck
  | x::r,acc,σ,h=>if GuardOk g h∧acc.length < sizeL then (bd x σ h).bind fun p h1=>compL g bd r (match p.1 with | some y=>acc++[y] | none=>acc) p.2 h1 else .stuck
noncomputable def stM (ncv:Nat) (js:List Nat) (σ:MSt):MSt:=List.replicate ncv none++js.map fun j=>(σ[j]?).join
noncomputable def whileL (c:MSt→MH→R MV) (bd:MSt→MH→RS):Nat→MSt→MH→RS
  | 0,_,_=>.stuck
  | n + 1,σ,h=>(c σ h).st fun v h1=>optS (blOf v) fun b=>if b=true then (bd σ h1).turn fun σ2 h2=>whileL c bd n σ2 h2 else .next σ h1
noncomputable def calm {α:Type} (r:R α):R α:=match r with
  | .ok x h=>.ok x h
  | _=>.stuck
@[simp] theorem calm_ok {α:Type} {x:α} {h:MH}:calm (R.ok x h)=.ok x h:=id rfl
noncomputable def loopB (tg:Tg) (ex:MSt→MH→RS):MV→MSt→MH→RS:=fun x σ h=>optS (bindT tg x σ) fun σ2=>ex σ2 h
noncomputable def compB (tg:Tg) (tc:MSt→MH→R Bool) (te:MSt→MH→R MV):MV→MSt→MH→R (Option MV×MSt):=fun x σ h =>
  opt (bindT tg x σ) fun σ2=>(calm (tc σ2 h)).bind fun k h2=>if k=true then (calm (te σ2 h2)).bind fun y h3=>.ok (some y,σ2) h3 else .ok (none,σ2) h2
noncomputable def FlatC:Cell→Prop
  | .lst xs=>∃ ys:List FV,xs=ys.map MV.f
  | .obj _ fs=>∃ ys:List (String×FV),fs=ys.map fun p=>(p.1,MV.f p.2)
  | .dic _=>True
  | .tab _=>True
  | .msk _=>True
  | .code=>True
  | .dead=>True
noncomputable def TrOk (h h':MH):Prop:=h.length≤h'.length∧∀ i c,i < h.length→h'[i]?=some c→h[i]?=some c∨FlatC c
open Classical in
noncomputable def leave (h:MH) (v:MV) (h':MH):R MV:=if TrOk h h' then (match v with
  | .f x=>.ok (.f x) (h'.take h.length)
  | .ref a=>if h.length≤a then (match cellL h' a with
      | some xs=>match allF xs with
        | some _=>.ok (.ref h.length) (h'.take h.length++[.lst xs])
        | none=>.ok v h'
      | none=>.ok v h') else .ok v h'
  | v=>.ok v h') else .ok v h'
open Classical in
noncomputable def leaveX (h:MH) (c:String) (h':MH):R MV:=if TrOk h h' then .exc c (h'.take h.length) else .exc c h'
section
variable (P:Prog) (W:String→List MV→MH→R MV)
open Classical in
noncomputable def makeV (fz:Bool) (c:String) (as:List MV) (h:MH):R MV :=
  (match P.meths c "__init__" with
    | some f=>W f (.ref h.length::as) (h++[Cell.obj c []])
    | none=>match as with | []=>R.ok (MV.f FV.non) (h++[Cell.obj c []]) | _=>.stuck).bind fun v (h1:MH)=>if isNon v=false then .stuck else
  match fz with
  | true=>match h1[h.length]? with
    | some (Cell.obj c' fs)=>opt (allF (fs.map Prod.snd)) fun vs=>if TrOk h h1 then R.ok (MV.f (FV.obj c' (fs.map Prod.fst) vs)) (h1.take h.length) else .stuck
    | _=>.stuck
  | false=>R.ok (MV.ref h.length) h1
mutual
@[simp] noncomputable def evalE:ME→MSt→MH→R MV
  | .var i,σ,h=>opt ((σ[i]?).join) fun v=>.ok v h
  | .cI i,_,h=>.ok (.f (.int i)) h
  | .cB b,_,h=>.ok (.f (.bl b)) h
  | .cN,_,h=>.ok (.f .non) h
  | .cS s,_,h=>.ok (.f (.str s)) h
  | .bin fz op a b,σ,h=>(evalE a σ h).bind fun x h1=>(evalE b σ h1).bind fun y h2=>binV fz op x y h2
  | .neg a,σ,h=>(evalE a σ h).bind fun x h1=>opt (intOf x) fun i=>.ok (.f (.int (-i))) h1
  | .cmp op a b,σ,h=>(evalE a σ h).bind fun x h1=>(evalE b σ h1).bind fun y h2=>opt (cmpV op x y h2) fun b=>.ok (.f (.bl b)) h2
  | .isN a,σ,h=>(evalE a σ h).bind fun x h1=>.ok (.f (.bl (isNon x))) h1
  | .notN a,σ,h=>(evalE a σ h).bind fun x h1=>.ok (.f (.bl (!isNon x))) h1
  | .and es,σ,h=>evalAnd es σ h
  | .or es,σ,h=>evalOr es σ h
  | .not a,σ,h=>(evalE a σ h).bind fun x h1=>opt (blOf x) fun k=>.ok (.f (.bl (!k))) h1
  | .ite c a b,σ,h=>(evalE c σ h).bind fun x h1=>opt (blOf x) fun k=>if k=true then evalE a σ h1 else evalE b σ h1
  | .tup es,σ,h=>(evalEs es σ h).bind fun xs h1=>.ok (mkTup xs) h1
  | .lst fz es,σ,h=>(evalEs es σ h).bind fun xs h1=>newL fz xs h1
  | .sub a i,σ,h=>(evalE a σ h).bind fun x h1=>(evalE i σ h1).bind fun y h2=>opt (seqOf h2 x) fun xs=>opt (intOf y) fun k=>opt (atM xs k) fun v=>.ok v h2
  | .slice fz a lo hi,σ,h=>(evalE a σ h).bind fun x h1=>(evalO lo σ h1).bind fun l h2=>(evalO hi σ h2).bind fun u h3=>sliceV fz x l u h3
  | .fld a n,σ,h=>(evalE a σ h).bind fun x h1=>opt (fldV P.fok n x h1) fun v=>.ok v h1
  | .call f es,σ,h=>(evalEs es σ h).bind fun xs h1=>W f xs h1
  | .make fz c es,σ,h=>(evalEs es σ h).bind fun xs h1=>makeV P W fz c xs h1
  | .meth o m es,σ,h=>(evalE o σ h).bind fun x h1=>opt (clsM m x h1) fun c=>opt (P.meths c m) fun f=>(evalEs es σ h1).bind fun xs h2=>W f (x::xs) h2
  | .blt fz n es,σ,h=>(evalEs es σ h).bind fun xs h1=>bltV fz n xs h1
  | .isI a t,σ,h=>(evalE a σ h).bind fun x h1=>opt (isIV P.subs h1 x t) fun k=>.ok (.f (.bl k)) h1
  | .tx1 o a,σ,h=>(evalE a σ h).bind fun x h1=>tx1V o x h1
  | .tx2 o a b,σ,h=>(evalE a σ h).bind fun x h1=>opt (t2g o x h1) fun _=>(evalE b σ h1).bind fun y h2=>tx2V o x y h2
  | .nearK a b,σ,h=>(evalE a σ h).bind fun x h1=>(evalE b σ h1).bind fun y h2=>nearV x y h2
  | .lm m o es,σ,h=>(evalE o σ h).bind fun x h1=>opt (lmC x h1) fun _=>(evalEs es σ h1).bind fun xs h2=>lmV m x xs h2
  | .comp fz elt tg it src cond ncv js,σ,h=>(evalEs src σ h).bind fun xs h1=>opt (itV it xs h1) fun p =>
      (compL p.2 (compB tg (evalC cond) (evalE elt)) p.1 [] (stM ncv js σ) h1).bind fun acc h3=>newL fz acc h3
  | .frz e,σ,h=>(evalE e σ h).bind fun x h1=>frzV x h1
@[simp] noncomputable def evalAnd:List ME→MSt→MH→R MV
  | [],_,_=>.stuck
  | [e],σ,h=>evalE e σ h
  | e::e'::r,σ,h=>(evalE e σ h).bind fun x h1=>opt (blOf x) fun k=>if k=true then evalAnd (e'::r) σ h1 else .ok (.f (.bl false)) h1
@[simp] noncomputable def evalOr:List ME→MSt→MH→R MV
  | [],_,_=>.stuck
  | [e],σ,h=>evalE e σ h
  | e::e'::r,σ,h=>(evalE e σ h).bind fun x h1=>opt (blOf x) fun k=>if k=true then .ok (.f (.bl true)) h1 else evalOr (e'::r) σ h1
@[simp] noncomputable def evalEs:List ME→MSt→MH→R (List MV)
  | [],_,h=>.ok [] h
  | e::es,σ,h=>(evalE e σ h).bind fun x h1=>(evalEs es σ h1).bind fun xs h2=>.ok (x::xs) h2
@[simp] noncomputable def evalO:Option ME→MSt→MH→R (Option Int)
  | none,_,h=>.ok none h
  | some e,σ,h=>(evalE e σ h).bind fun x h1=>opt (intOf x) fun i=>.ok (some i) h1
@[simp] noncomputable def evalC:Option ME→MSt→MH→R Bool
  | none,_,h=>.ok true h
  | some e,σ,h=>(evalE e σ h).bind fun x h1=>opt (blOf x) fun k=>.ok k h1
end
mutual
@[simp] noncomputable def execS:MS→MSt→MH→RS
  | .set tg e,σ,h=>(evalE P W e σ h).st fun v h1=>optS (bindT tg v σ) fun σ1=>.next σ1 h1
  | .setSub o i e,σ,h=>(evalE P W e σ h).st fun v h1=>(evalE P W o σ h1).st fun x h2=>(evalE P W i σ h2).st fun y h3 =>
      match x with
      | .ref a=>optS (cellL h3 a) fun xs=>optS (intOf y) fun k=>optS (ixM xs.length k) fun j=>.next σ (setCell h3 a (xs.set j v))
      | _=>.stuck
  | .par i j a b,σ,h=>(evalEs P W [a,b] σ h).st fun xs h1=>match xs with
    | [v,w]=>.next ((σ.set i (some v)).set j (some w)) h1
    | _=>.stuck
  | .setFld o n e,σ,h=>(evalE P W e σ h).st fun v h1=>(evalE P W o σ h1).st fun x h2=>match x with
      | .ref a=>match h2[a]? with
        | some (.obj c fs)=>if P.fok c n=true∧fs.length < 100 then .next σ (h2.set a (.obj c (setF n v fs))) else .stuck
        | _=>.stuck
      | _=>.stuck
  | .expr e,σ,h=>(evalE P W e σ h).st fun _ h1=>.next σ h1
  | .ret e,σ,h=>(evalE P W e σ h).st fun v h1=>.ret v h1
  | .ite c a b,σ,h=>(evalE P W c σ h).st fun v h1=>optS (blOf v) fun k=>if k=true then execSs a σ h1 else execSs b σ h1
  | .for_ tg it src body,σ,h=>(evalEs P W src σ h).st fun xs h1=>optS (itV it xs h1) fun p =>
      forL p.2 (loopB tg (execSs body)) p.1 σ h1
  | .while_ c body,σ,h=>whileL (evalE P W c) (execSs body) P.turns σ h
  | .pass,σ,h=>.next σ h
  | .boom,_,_=>.stuck
  | .frzS i,σ,h=>optS ((σ[i]?).join) fun v=>(frzV v h).st fun x h1=>.next (σ.set i (some x)) h1
noncomputable def execSs:List MS→MSt→MH→RS
  | [],σ,h=>.next σ h
  | s::r,σ,h=>(execS s σ h).bind (execSs r)
end
end
noncomputable def leaveS (h:MH) (r:RS):R MV:=match r with
  | .next _ h'=>leave h (.f .non) h'
  | .ret v h'=>leave h v h'
  | .exc c h'=>leaveX h c h'
  | _=>.stuck
noncomputable def run (P:Prog):Nat→String→List MV→MH→R MV
  | 0,_,_,_=>.stuck
  | n + 1,f,as,h=>opt (P.defs f) fun d=>if as.length=d.np then leaveS h (execSs P (run P n) d.body (as.map some++List.replicate (d.ns - d.np) none) h) else .stuck
end MP
end
section
namespace MP
open PySem
noncomputable abbrev I (i:Int):MV:=.f (.int i)
noncomputable abbrev B (b:Bool):MV:=.f (.bl b)
@[simp] theorem allF_map {α:Type} (g:α→FV):∀ xs:List α,allF (xs.map fun x=>MV.f (g x))=some (xs.map g)
  | []=>rfl
  | x::r=>by simp [allF,allF_map g r]
@[simp] theorem allF_mapf:∀ xs:List FV,allF (xs.map MV.f)=some xs
  | []=>rfl
  | x::r=>by simp [allF,allF_mapf r]
@[simp] theorem allF_comp {α:Type} (g:α→FV) (xs:List α):allF (xs.map (MV.f∘g))=some (xs.map g):=allF_map g xs
@[simp] theorem intsOf_map {α:Type} (g:α→Int):∀ xs:List α,intsOf (xs.map fun x=>MV.f (.int (g x)))=some (xs.map g)
  | []=>rfl
  | x::r=>by simp [intsOf,intsOf_map g r]
@[simp] theorem intsOf_comp:∀ xs:List Int,intsOf (xs.map (MV.f∘FV.int))=some xs
  | []=>rfl
  | x::r=>by
    show Option.map _ (intsOf (r.map (MV.f∘FV.int)))=_
    rw [intsOf_comp r]; rfl
@[simp] theorem blsOf_map {α:Type} (g:α→Bool):∀ xs:List α,blsOf (xs.map fun x=>MV.f (.bl (g x)))=some (xs.map g)
  | []=>rfl
  | x::r=>by simp [blsOf,blsOf_map g r]
@[simp] theorem mkTup_mapf (xs:List FV):mkTup (xs.map MV.f)=.f (.tup xs):=by simp [mkTup]
@[simp] theorem mkTup_comp {α:Type} (g:α→FV) (xs:List α):mkTup (xs.map (MV.f∘g))=.f (.tup (xs.map g)):=by simp [mkTup]
@[simp] theorem mkTup_map {α:Type} (g:α→FV) (xs:List α):mkTup (xs.map fun x=>MV.f (g x))=.f (.tup (xs.map g)):=by simp [mkTup]
@[simp] theorem mkTup_two (x y:FV):mkTup [.f x,.f y]=.f (.tup [x,y]):=rfl
@[simp] theorem mkTup_nil:mkTup []=.f (.tup []):=rfl
@[simp] theorem mkTup_one (x:FV):mkTup [.f x]=.f (.tup [x]):=rfl
@[simp] theorem newL_true_mapf (xs:List FV) (h:MH):newL true (xs.map MV.f) h=.ok (.f (.lst xs)) h:=by simp [newL]
@[simp] theorem newL_true_comp {α:Type} (g:α→FV) (xs:List α) (h:MH):newL true (xs.map (MV.f∘g)) h=.ok (.f (.lst (xs.map g))) h:=by simp [newL]
@[simp] theorem newL_true_map {α:Type} (g:α→FV) (xs:List α) (h:MH):newL true (xs.map fun x=>MV.f (g x)) h=.ok (.f (.lst (xs.map g))) h:=by simp [newL]
@[simp] theorem newL_true_nil (h:MH):newL true [] h=.ok (.f (.lst [])) h:=rfl
@[simp] theorem newL_true_cons (x:FV) (r:List MV) (h:MH):newL true (.f x::r) h=opt (allF r) fun ys=>.ok (.f (.lst (x::ys))) h:=by
  simp only [newL,allF]; cases allF r <;> rfl
@[simp] theorem newL_false (xs:List MV) (h:MH):newL false xs h=.ok (.ref h.length) (h++[.lst xs]):=rfl
@[simp] theorem execSs_nil (P:Prog) (W:String→List MV→MH→R MV) (σ:MSt) (h:MH):execSs P W [] σ h=.next σ h:=by simp only [execSs]
@[simp] theorem execSs_cons (P:Prog) (W:String→List MV→MH→R MV) (s:MS) (r:List MS) (σ:MSt) (h:MH):execSs P W (s::r) σ h=(execS P W s σ h).bind (execSs P W r):=by simp only [execSs]
section
variable {h:MH}
@[simp] theorem fldV_obj (ok:String→String→Bool) (n c:String) (ns:List String) (vs:List FV):fldV ok n (.f (.obj c ns vs)) h=if ok c n=true then (lookF n ns vs).map .f else none:=rfl
@[simp] theorem lmC_ref (a:Nat):lmC (.ref a) h=cellL h a:=rfl
@[simp] theorem isNon_non:isNon (.f .non)=true:=rfl
@[simp] theorem isNon_str (s:Str):isNon (.f (.str s))=false:=rfl
@[simp] theorem isNon_int (s:Int):isNon (.f (.int s))=false:=rfl
@[simp] theorem isNon_bl (s:Bool):isNon (.f (.bl s))=false:=rfl
@[simp] theorem isNon_tup (s:List FV):isNon (.f (.tup s))=false:=rfl
@[simp] theorem isNon_lst (s:List FV):isNon (.f (.lst s))=false:=rfl
@[simp] theorem isNon_obj (c:String) (ns:List String) (s:List FV):isNon (.f (.obj c ns s))=false:=rfl
@[simp] theorem isNon_ref (s:Nat):isNon (.ref s)=false:=rfl
@[simp] theorem isNon_mtup (s:List MV):isNon (.tup s)=false:=rfl
@[simp] theorem seqOf_tup (xs:List FV):seqOf h (.f (.tup xs))=some (xs.map .f):=rfl
@[simp] theorem seqOf_lst (xs:List FV):seqOf h (.f (.lst xs))=some (xs.map .f):=rfl
@[simp] theorem seqOf_scr (ns:List Int):seqOf h (.f (.scr ns))=some (ns.map fun i=>MV.f (.int i)):=rfl
@[simp] theorem tupOf_scr (ns:List Int):tupOf (.f (.scr ns))=none:=rfl
@[simp] theorem seqOf_mtup (xs:List MV):seqOf h (.tup xs)=some xs:=rfl
@[simp] theorem seqOf_ref (a:Nat):seqOf h (.ref a)=cellL h a:=rfl
@[simp] theorem setF_nil (n:String) (v:MV):setF n v []=[(n,v)]:=rfl
@[simp] theorem setF_cons (n k:String) (v x:MV) (r:List (String×MV)):setF n v ((k,x)::r)=if k=n then (k,v)::r else (k,x)::setF n v r:=rfl
@[simp] theorem listOf_tup (xs:List FV):listOf h (.f (.tup xs))=none:=rfl
@[simp] theorem listOf_lst (xs:List FV):listOf h (.f (.lst xs))=some (xs.map .f):=rfl
@[simp] theorem listOf_ref (a:Nat):listOf h (.ref a)=cellL h a:=rfl
@[simp] theorem tupOf_tup (xs:List FV):tupOf (.f (.tup xs))=some (xs.map .f):=rfl
@[simp] theorem tupOf_mtup (xs:List MV):tupOf (.tup xs)=some xs:=rfl
@[simp] theorem tupOf_lst (xs:List FV):tupOf (.f (.lst xs))=none:=rfl
@[simp] theorem tupOf_ref (a:Nat):tupOf (.ref a)=none:=rfl
@[simp] theorem intOf_int (i:Int):intOf (.f (.int i))=some i:=rfl
@[simp] theorem intOf_tup (xs:List FV):intOf (.f (.tup xs))=none:=rfl
@[simp] theorem intOf_lst (xs:List FV):intOf (.f (.lst xs))=none:=rfl
@[simp] theorem intOf_ref (a:Nat):intOf (.ref a)=none:=rfl
@[simp] theorem blOf_bl (b:Bool):blOf (.f (.bl b))=some b:=rfl
@[simp] theorem intCmp_lt (i j:Int):intCmp .lt i j=some (decide (i < j)):=rfl
@[simp] theorem intCmp_le (i j:Int):intCmp .le i j=some (decide (i≤j)):=rfl
@[simp] theorem intCmp_gt (i j:Int):intCmp .gt i j=some (decide (j < i)):=rfl
@[simp] theorem intCmp_ge (i j:Int):intCmp .ge i j=some (decide (j≤i)):=rfl
@[simp] theorem cmp_lt (x y:MV):cmpV .lt x y h=(intOf x).bind fun i=>(intOf y).bind fun j=>some (decide (i < j)):=rfl
@[simp] theorem cmp_le (x y:MV):cmpV .le x y h=(intOf x).bind fun i=>(intOf y).bind fun j=>some (decide (i≤j)):=rfl
@[simp] theorem cmp_gt (x y:MV):cmpV .gt x y h=(intOf x).bind fun i=>(intOf y).bind fun j=>some (decide (j < i)):=rfl
@[simp] theorem cmp_ge (x y:MV):cmpV .ge x y h=(intOf x).bind fun i=>(intOf y).bind fun j=>some (decide (j≤i)):=rfl
@[simp] theorem deep_f (x:FV):deep h (.f x)=some x:=rfl
@[simp] theorem cmp_eq_f (x y:FV):cmpV .eq (.f x) (.f y) h=eqF x y:=rfl
@[simp] theorem cmp_ne_f (x y:FV):cmpV .ne (.f x) (.f y) h=(eqF x y).map (!·):=rfl
@[simp] theorem isD_non (n:Nat):isD (n + 1) .non=true:=rfl
@[simp] theorem isD_bl (n:Nat) (b:Bool):isD (n + 1) (.bl b)=true:=rfl
@[simp] theorem isD_int (n:Nat) (i:Int):isD (n + 1) (.int i)=true:=rfl
@[simp] theorem isD_str (n:Nat) (s:Str):isD (n + 1) (.str s)=sOk s:=rfl
@[simp] theorem isD_tup (n:Nat) (xs:List FV):isD (n + 1) (.tup xs)=xs.all (isD n):=rfl
@[simp] theorem isD_lst (n:Nat) (xs:List FV):isD (n + 1) (.lst xs)=xs.all (isD n):=rfl
@[simp] theorem eqD_int (i j:Int):eqD (.int i) (.int j)=(i == j):=by simp [eqD]
@[simp] theorem eqD_str (i j:Str):eqD (.str i) (.str j)=(i == j):=by simp [eqD]
@[simp] theorem eqD_tup (xs ys:List FV):eqD (.tup xs) (.tup ys)=eqDs xs ys:=by simp [eqD]
@[simp] theorem eqD_lst (xs ys:List FV):eqD (.lst xs) (.lst ys)=eqDs xs ys:=by simp [eqD]
@[simp] theorem eqF_int (i j:Int):eqF (.int i) (.int j)=some (i == j):=by simp [eqF]
theorem eqF_str (i j:Str) (a:sOk i=true) (b:sOk j=true):eqF (.str i) (.str j)=some (i == j):=by simp [eqF,a,b]
@[simp] theorem bin_add (fz:Bool) (i j:Int):binV fz .add (.f (.int i)) (.f (.int j)) h=.ok (.f (.int (i + j))) h:=rfl
@[simp] theorem bin_sub (fz:Bool) (i j:Int):binV fz .sub (.f (.int i)) (.f (.int j)) h=.ok (.f (.int (i - j))) h:=rfl
theorem bin_mul (fz:Bool) (i j:Int) (c:mulOk i j):binV fz .mul (.f (.int i)) (.f (.int j)) h=.ok (.f (.int (i * j))) h:=by simp [binV,intBin,c]
theorem bin_fdiv (fz:Bool) (i j:Int) (c:divOk i j):binV fz .fdiv (.f (.int i)) (.f (.int j)) h=.ok (.f (.int (i / j))) h:=by simp [binV,intBin,c]
theorem bin_mod (fz:Bool) (i j:Int) (c:0 < j):binV fz .mod (.f (.int i)) (.f (.int j)) h=.ok (.f (.int (i % j))) h:=by simp [binV,intBin,c]
theorem bin_pow (fz:Bool) (i j:Int) (c:0≤j∧j≤1000000∧i.natAbs < 2 ^ 64):binV fz .pow (.f (.int i)) (.f (.int j)) h=.ok (.f (.int (i ^ j.toNat))) h:=by simp [binV,intBin,c]
@[simp] theorem bltV_len (fz:Bool) (v:MV):bltV fz "len" [v] h=opt (seqOf h v) fun xs=>.ok (.f (.int xs.length)) h:=rfl
@[simp] theorem bltV_sum (fz:Bool) (v:MV):bltV fz "sum" [v] h=opt ((seqOf h v).bind intsOf) fun xs=>.ok (.f (.int xs.sum)) h:=rfl
@[simp] theorem bltV_all (fz:Bool) (v:MV):bltV fz "all" [v] h=opt ((seqOf h v).bind blsOf) fun xs=>.ok (.f (.bl (xs.all id))) h:=rfl
@[simp] theorem bltV_tuple (fz:Bool) (v:MV):bltV fz "tuple" [v] h=opt (seqOf h v) fun xs=>.ok (mkTup xs) h:=rfl
@[simp] theorem bltV_list (fz:Bool) (v:MV):bltV fz "list" [v] h=opt (seqOf h v) fun xs=>newL fz xs h:=rfl
@[simp] theorem bltV_min2 (fz:Bool) (i j:Int):bltV fz "min" [.f (.int i),.f (.int j)] h=.ok (.f (.int (if j < i then j else i))) h:=rfl
@[simp] theorem bltV_max2 (fz:Bool) (i j:Int):bltV fz "max" [.f (.int i),.f (.int j)] h=.ok (.f (.int (if j > i then j else i))) h:=rfl
@[simp] theorem bltV_abs (fz:Bool) (i:Int):bltV fz "abs" [.f (.int i)] h=.ok (.f (.int (if i < 0 then -i else i))) h:=rfl
@[simp] theorem bltV_intI (fz:Bool) (i:Int):bltV fz "int" [.f (.int i)] h=.ok (.f (.int i)) h:=rfl
@[simp] theorem bltV_intB (fz:Bool) (b:Bool):bltV fz "int" [.f (.bl b)] h=.ok (.f (.int (if b then 1 else 0))) h:=rfl
end
@[simp] theorem ite_okH {α:Type} (c:Prop) [Decidable c] (x y:α) (h:MH):(if c then R.ok x h else R.ok y h)=R.ok (if c then x else y) h:=by split <;> rfl
@[simp] theorem ite_f (c:Prop) [Decidable c] (x y:FV):(if c then MV.f x else MV.f y)=MV.f (if c then x else y):=by split <;> rfl
@[simp] theorem ite_bl (c:Prop) [Decidable c] (x y:Bool):(if c then FV.bl x else FV.bl y)=FV.bl (if c then x else y):=by split <;> rfl
@[simp] theorem ite_int (c:Prop) [Decidable c] (x y:Int):(if c then FV.int x else FV.int y)=FV.int (if c then x else y):=by split <;> rfl
theorem atM_nat (xs:List MV) (k:Nat):atM xs (k:Int)=xs[k]?:=by
  unfold atM ixM
  by_cases h:k < xs.length
  · simp [h]
  · simp [h]
theorem atM_pos (xs:List MV) (i:Int) (h:0≤i):atM xs i=xs[i.toNat]?:=by
  have:=atM_nat xs i.toNat
  rwa [Int.toNat_of_nonneg h] at this
@[simp] theorem atM_zero (x:MV) (xs:List MV):atM (x::xs) 0=some x:=by have:=atM_nat (x::xs) 0; simpa using this
@[simp] theorem atM_one (x y:MV) (xs:List MV):atM (x::y::xs) 1=some y:=by have:=atM_nat (x::y::xs) 1; simpa using this
@[simp] theorem atM_two (x y z:MV) (xs:List MV):atM (x::y::z::xs) 2=some z:=by have:=atM_nat (x::y::z::xs) 2; simpa using this
noncomputable def sq (b:Bool) (xs:List FV):FV:=if b=true then .tup xs else .lst xs
@[simp] theorem seqOf_sq (h:MH) (b:Bool) (xs:List FV):seqOf h (.f (sq b xs))=some (xs.map .f):=by cases b <;> rfl
@[simp] theorem guardOf_sq (h:MH) (b:Bool) (xs:List FV):guardOf h (.f (sq b xs))=[]:=rfl
noncomputable def minL:List Int→Int
  | []=>0
  | x::r=>minI x r
noncomputable def maxL:List Int→Int
  | []=>0
  | x::r=>maxI x r
theorem minI_le:∀ (r:List Int) (m:Int),minI m r≤m∧∀ v∈r,minI m r≤v
  | [],m=>⟨Int.le_refl _,fun v hv=>by simp at hv⟩
  | x::r,m=>by
    obtain ⟨a,b⟩:=minI_le r (if x < m then x else m)
    simp only [minI]
    refine ⟨by split at a <;> rename_i hc <;> simp only [hc,if_true,if_false] <;> lia,fun v hv=>?_⟩
    rcases List.mem_cons.mp hv with rfl | hv
    · split at a <;> rename_i hc <;> simp only [hc,if_true,if_false] <;> lia
    · exact b v hv
theorem minI_mem:∀ (r:List Int) (m:Int),minI m r=m∨minI m r∈r
  | [],m=>.inl rfl
  | x::r,m=>by
    simp only [minI]
    rcases minI_mem r (if x < m then x else m) with e | e
    · rw [e]; split
      · exact .inr (by simp)
      · exact .inl rfl
    · exact .inr (by simp [e])
theorem maxI_ge:∀ (r:List Int) (m:Int),m≤maxI m r∧∀ v∈r,v≤maxI m r
  | [],m=>⟨Int.le_refl _,fun v hv=>by simp at hv⟩
  | x::r,m=>by
    obtain ⟨a,b⟩:=maxI_ge r (if x > m then x else m)
    simp only [maxI]
    refine ⟨by split at a <;> rename_i hc <;> simp only [hc,if_true,if_false] <;> lia,fun v hv=>?_⟩
    rcases List.mem_cons.mp hv with rfl | hv
    · split at a <;> rename_i hc <;> simp only [hc,if_true,if_false] <;> lia
    · exact b v hv
theorem maxI_mem:∀ (r:List Int) (m:Int),maxI m r=m∨maxI m r∈r
  | [],m=>.inl rfl
  | x::r,m=>by
    simp only [maxI]
    rcases maxI_mem r (if x > m then x else m) with e | e
    · rw [e]; split
      · exact .inr (by simp)
      · exact .inl rfl
    · exact .inr (by simp [e])
theorem minL_mem {r:List Int} (h:r≠[]):minL r∈r:=by
  cases r with
  | nil=>exact absurd rfl h
  | cons x r=>rcases minI_mem r x with e | e <;> simp [minL,e]
theorem maxL_mem {r:List Int} (h:r≠[]):maxL r∈r:=by
  cases r with
  | nil=>exact absurd rfl h
  | cons x r=>rcases maxI_mem r x with e | e <;> simp [maxL,e]
theorem minL_le {r:List Int} {v:Int} (h:v∈r):minL r≤v:=by
  cases r with
  | nil=>simp at h
  | cons x r =>
    rcases List.mem_cons.mp h with rfl | h
    · exact (minI_le r v).1
    · exact (minI_le r x).2 v h
theorem maxL_ge {r:List Int} {v:Int} (h:v∈r):v≤maxL r:=by
  cases r with
  | nil=>simp at h
  | cons x r =>
    rcases List.mem_cons.mp h with rfl | h
    · exact (maxI_ge r v).1
    · exact (maxI_ge r x).2 v h
theorem bltV_min (fz:Bool) (h:MH) (v:MV) (ns:List Int) (e:(seqOf h v).bind intsOf=some ns) (ne:ns≠[]):bltV fz "min" [v] h=.ok (I (minL ns)) h:=by
  cases ns with
  | nil=>exact absurd rfl ne
  | cons x r=>show opt ((seqOf h v).bind intsOf) _=_; rw [e]; rfl
theorem bltV_max (fz:Bool) (h:MH) (v:MV) (ns:List Int) (e:(seqOf h v).bind intsOf=some ns) (ne:ns≠[]):bltV fz "max" [v] h=.ok (I (maxL ns)) h:=by
  cases ns with
  | nil=>exact absurd rfl ne
  | cons x r=>show opt ((seqOf h v).bind intsOf) _=_; rw [e]; rfl
theorem cellL_app (h t:MH) (xs:List MV):cellL (h++.lst xs::t) h.length=some xs:=by simp [cellL]
theorem cellL_left {h t:MH} {a:Nat} {xs:List MV} (e:cellL h a=some xs):cellL (h++t) a=some xs:=by
  unfold cellL at *
  cases q:h[a]? with
  | none=>rw [q] at e; cases e
  | some c=>rw [List.getElem?_append_left (List.getElem?_eq_some_iff.mp q).1,q]; rw [q] at e; exact e
theorem setCell_app (h t:MH) (xs ys:List MV):setCell (h++.lst xs::t) h.length ys=h++.lst ys::t:=by simp [setCell]
theorem mapM_f (h:MH) (n:Nat):∀ xs:List FV,(xs.map MV.f).mapM (deepN h (n + 1))=some xs
  | []=>rfl
  | x::r=>by simp [List.mapM_cons,mapM_f h n r,deepN]
theorem flat_cells (h:MH) (n:Nat):∀ xs:List FV,(xs.map MV.f).flatMap (cellsN h (n + 1))=[]
  | []=>rfl
  | x::r=>by simp [cellsN]
theorem kill_app (h t:MH) (as:List Nat) (ha:∀ a∈as,h.length≤a):∃ t',kill as (h++t)=h++t':=by
  refine ⟨(t.mapIdx fun i c=>if i + h.length∈as then .dead else c),?_⟩
  unfold kill
  rw [List.mapIdx_append]
  congr 1
  · refine List.ext_getElem? fun i=>?_
    rw [List.getElem?_mapIdx]
    cases q:h[i]? with
    | none=>rfl
    | some c =>
      have hi:=(List.getElem?_eq_some_iff.mp q).1
      have:i∉as:=fun z=>by have:=ha i z; lia
      simp [this]
theorem frz_flat (h:MH) (a:Nat) (xs:List FV) (e:cellL h a=some (xs.map .f)):frzV (.ref a) h=.ok (.f (.lst xs)) (kill [a] h):=by
  simp only [frzV,deep,deepN,e,Option.bind_some,mapM_f,Option.map_some,opt_some,cellsN,Option.getD_some,flat_cells]
theorem frz_own (h t:MH) (xs:List FV):∃ t',frzV (.ref h.length) (h++.lst (xs.map .f)::t)=.ok (.f (.lst xs)) (h++t'):=by
  obtain ⟨t',e⟩:=kill_app h (.lst (xs.map .f)::t) [h.length] (by simp)
  exact ⟨t',by rw [frz_flat _ _ xs (cellL_app h t _),e]⟩
@[simp] theorem frz_f (h:MH) (x:FV):frzV (.f x) h=.ok (.f x) h:=by
  have:kill [] h=h:=by unfold kill; refine List.ext_getElem? fun i=>?_; rw [List.getElem?_mapIdx]; cases h[i]? <;> rfl
  simp [frzV,deep,deepN,cellsN,this]
@[simp] theorem caught_exc (k:String→MH→RS) (c:String) (h:MH):RS.caught k (.exc c h)=k c h:=id rfl
@[simp] theorem caught_next (k:String→MH→RS) (σ:MSt) (h:MH):RS.caught k (.next σ h)=.next σ h:=id rfl
@[simp] theorem caught_ret (k:String→MH→RS) (v:MV) (h:MH):RS.caught k (.ret v h)=.ret v h:=id rfl
theorem TrOk.refl (h:MH):TrOk h h:=⟨Nat.le_refl _,fun i c _ e=>.inl e⟩
theorem TrOk.app (h t:MH):TrOk h (h++t):=⟨by simp,fun i c hi e=>.inl (by rw [List.getElem?_append_left hi] at e; exact e)⟩
theorem TrOk.cons {c c':Cell} {h h':MH} (t:TrOk h h') (e:c'=c∨FlatC c'):TrOk (c::h) (c'::h'):=by
  refine ⟨by have:=t.1; simp; lia,fun i d hi q=>?_⟩
  cases i with
  | zero =>
    simp at q; subst q; rcases e with e | e
    · left; simp [e]
    · exact .inr e
  | succ i=>simp at q hi ⊢; exact t.2 i d hi q
@[simp] theorem leave_same (h:MH) (x:FV):leave h (.f x) h=.ok (.f x) h:=by simp [leave,TrOk.refl]
@[simp] theorem leave_app (h t:MH) (x:FV):leave h (.f x) (h++t)=.ok (.f x) h:=by simp [leave,TrOk.app]
@[simp] theorem leave_at (h:MH) (k k':Int) (x:FV):leave (.lst [I k]::h) (.f x) (.lst [I k']::h)=.ok (.f x) (.lst [I k']::h):=by
  simp [leave,TrOk.cons (TrOk.refl h) (.inr ⟨[.int k'],rfl⟩:Cell.lst [I k']=Cell.lst [I k]∨FlatC (.lst [I k']))]
@[simp] theorem leave_at_app (h t:MH) (k k':Int) (x:FV):leave (.lst [I k]::h) (.f x) (.lst [I k']::(h++t))=.ok (.f x) (.lst [I k']::h):=by
  simp [leave,TrOk.cons (TrOk.app h t) (.inr ⟨[.int k'],rfl⟩:Cell.lst [I k']=Cell.lst [I k]∨FlatC (.lst [I k']))]
@[simp] theorem leaveX_same (h:MH) (c:String):leaveX h c h=.exc c h:=by simp [leaveX,TrOk.refl]
@[simp] theorem leaveX_app (h t:MH) (c:String):leaveX h c (h++t)=.exc c h:=by simp [leaveX,TrOk.app]
@[simp] theorem leaveS_next (h:MH) (σ:MSt) (h':MH):leaveS h (.next σ h')=leave h (.f .non) h':=id rfl
@[simp] theorem leaveS_ret (h:MH) (v:MV) (h':MH):leaveS h (.ret v h')=leave h v h':=id rfl
@[simp] theorem leaveS_exc (h:MH) (c:String) (h':MH):leaveS h (.exc c h')=leaveX h c h':=id rfl
@[simp] theorem GuardOk_nil (h:MH):GuardOk [] h:=fun p hp=>by simp at hp
@[simp] theorem guardOf_f (h:MH) (x:FV):guardOf h (.f x)=[]:=rfl
@[simp] theorem guardOf_tup (h:MH) (x:List MV):guardOf h (.tup x)=[]:=rfl
theorem forL_cons (bd:MV→MSt→MH→RS) (x:MV) (r:List MV) (σ:MSt) (h:MH):forL [] bd (x::r) σ h=(bd x σ h).turn fun σ1 h1=>forL [] bd r σ1 h1:=by simp [forL]
@[simp] theorem itV_seq (h:MH) (v:MV):itV "seq" [v] h=(seqOf h v).map fun xs=>(xs,guardOf h v):=rfl
theorem itV_range (h:MH) (n:Int) (c:-(2 ^ 62)≤n∧n < 2 ^ 62):itV "range" [.f (.int n)] h=some ((List.range n.toNat).map fun (k:Nat)=>I k,[]):=if_pos c
theorem itV_range2 (h:MH) (a b:Int) (c:-(2 ^ 62)≤a∧a < 2 ^ 62∧-(2 ^ 62)≤b∧b < 2 ^ 62):itV "range" [.f (.int a),.f (.int b)] h=some ((List.range (b - a).toNat).map fun (k:Nat)=>I (a + k),[]):=if_pos c
theorem itV_r1 (h:MH) (u:MV):itV "range" [u] h=(intOf u).bind fun n=>if -(2 ^ 62)≤n∧n < 2 ^ 62 then some ((List.range n.toNat).map fun (k:Nat)=>.f (.int k),[]) else none:=rfl
theorem itV_r2 (h:MH) (u v:MV):itV "range" [u,v] h=(intOf u).bind fun a=>(intOf v).bind fun b=>if -(2 ^ 62)≤a∧a < 2 ^ 62∧-(2 ^ 62)≤b∧b < 2 ^ 62 then some ((List.range (b - a).toNat).map fun (k:Nat)=>.f (.int (a + k)),[]) else none:=rfl
theorem itV_r3 (h:MH) (u v w:MV):itV "range" [u,v,w] h=(intOf u).bind fun a=>(intOf v).bind fun b=>(intOf w).bind fun s=>if -(2 ^ 30)≤a∧a < 2 ^ 30∧-(2 ^ 30)≤b∧b < 2 ^ 30∧0 < s∧s < 2 ^ 30 then some ((List.range (rlen a b s)).map fun (k:Nat)=>.f (.int (a + k * s)),[]) else none:=rfl
@[simp] theorem itV_zip (h:MH) (u v:MV):itV "zip" [u,v] h=(seqOf h u).bind fun xs=>(seqOf h v).map fun ys=>((xs.zip ys).map fun p=>mkTup [p.1,p.2],guardOf h u++guardOf h v):=rfl
@[simp] theorem itV_enum (h:MH) (v:MV):itV "enumerate" [v] h=(seqOf h v).map fun xs=>(xs.mapIdx fun k x=>mkTup [.f (.int k),x],guardOf h v):=rfl
@[simp] theorem natsucc_ne (n:Nat):(((n:Int) + 1=0)=False):=eq_false (by lia)
@[simp] theorem natsucc_beq (n:Nat):(((n:Int) + 1 == 0)=false):=beq_false_of_ne (by lia)
theorem compL_one {α:Type} {bd:MV→MSt→MH→R (Option MV×MSt)} {h:MH} {e g:α→MV} {caps:MSt}:∀ (ys:List α) (acc:List MV) (z:Option MV),acc.length + ys.length≤sizeL →
    (∀ y∈ys,∀ z,∃ z',bd (e y) (z::caps) h=.ok (some (g y),z'::caps) h)→compL [] bd (ys.map e) acc (z::caps) h=.ok (acc++ys.map g) h
  | [],acc,z,_,_=>by simp [compL]
  | y::r,acc,z,hl,hb=>by
    obtain ⟨z',e'⟩:=hb y (by simp) z
    simp only [List.length_cons] at hl
    have:=compL_one (bd:=bd) (h:=h) (e:=e) (g:=g) (caps:=caps) r (acc++[g y]) z' (by simp; lia) (fun y hy z=>hb y (by simp [hy]) z)
    simp [compL,e',this]
    lia
theorem compL_two {α:Type} {bd:MV→MSt→MH→R (Option MV×MSt)} {h:MH} {e g:α→MV} {caps:MSt}:∀ (ys:List α) (acc:List MV) (z w:Option MV),acc.length + ys.length≤sizeL →
    (∀ y∈ys,∀ z w,∃ z' w',bd (e y) (z::w::caps) h=.ok (some (g y),z'::w'::caps) h)→compL [] bd (ys.map e) acc (z::w::caps) h=.ok (acc++ys.map g) h
  | [],acc,z,w,_,_=>by simp [compL]
  | y::r,acc,z,w,hl,hb=>by
    obtain ⟨z',w',e'⟩:=hb y (by simp) z w
    simp only [List.length_cons] at hl
    have:=compL_two (bd:=bd) (h:=h) (e:=e) (g:=g) (caps:=caps) r (acc++[g y]) z' w' (by simp; lia) (fun y hy z=>hb y (by simp [hy]) z)
    simp [compL,e',this]
    lia
theorem compL_if {α:Type} {bd:MV→MSt→MH→R (Option MV×MSt)} {h:MH} {e g:α→MV} {t:α→Bool} {caps:MSt}:∀ (ys:List α) (acc:List MV) (z:Option MV),acc.length + ys.length≤sizeL →
    (∀ y∈ys,∀ z,∃ z',bd (e y) (z::caps) h=.ok (if t y=true then some (g y) else none,z'::caps) h)→compL [] bd (ys.map e) acc (z::caps) h=.ok (acc++(ys.filter t).map g) h
  | [],acc,z,_,_=>by simp [compL]
  | y::r,acc,z,hl,hb=>by
    obtain ⟨z',e'⟩:=hb y (by simp) z
    simp only [List.length_cons] at hl
    have ih:=fun acc' (hl':acc'.length + r.length≤sizeL)=>compL_if (bd:=bd) (h:=h) (e:=e) (g:=g) (t:=t) (caps:=caps) r acc' z' hl' (fun y hy z=>hb y (by simp [hy]) z)
    cases ht:t y with
    | true =>
      simp [ht] at e'
      simp [compL,e',ih (acc++[g y]) (by simp; lia),ht]
      lia
    | false =>
      simp [ht] at e'
      simp [compL,e',ih acc (by lia),ht]
      lia
theorem forL_fold {α β:Type} {bd:MV→MSt→MH→RS} {e:α→MV} {st:β→MSt} {hp:β→MH} {f:β→α→β}:∀ (ys:List α) (b:β),
    (∀ y∈ys,∀ b,bd (e y) (st b) (hp b)=.next (st (f b y)) (hp (f b y)))→forL [] bd (ys.map e) (st b) (hp b)=.next (st (ys.foldl f b)) (hp (ys.foldl f b))
  | [],b,_=>by simp [forL]
  | y::r,b,hb=>by
    simp only [List.map_cons,forL_cons,hb y (by simp) b,RS.turn_next,List.foldl_cons]
    exact forL_fold r (f b y) fun y hy b=>hb y (by simp [hy]) b
theorem forL_inv {α:Type} {bd:MV→MSt→MH→RS} {e:α→MV} (Pv:Nat→MSt→MH→Prop):∀ (ys:List α) (i:Nat) (σ:MSt) (h:MH),Pv i σ h →
    (∀ j y σ h,ys[j]?=some y→Pv (i + j) σ h→∃ σ' h',bd (e y) σ h=.next σ' h'∧Pv (i + j + 1) σ' h')→∃ σ' h',forL [] bd (ys.map e) σ h=.next σ' h'∧Pv (i + ys.length) σ' h'
  | [],i,σ,h,p,_=>⟨σ,h,by simp [forL],p⟩
  | y::r,i,σ,h,p,hb=>by
    obtain ⟨σ1,h1,e1,p1⟩:=hb 0 y σ h rfl p
    obtain ⟨σ2,h2,e2,p2⟩:=forL_inv (bd:=bd) (e:=e) Pv r (i + 1) σ1 h1 p1 (fun j y σ h hj pj=>by
      have:=hb (j + 1) y σ h (by simpa using hj) (by rw [show i + (j + 1)=i + 1 + j by lia]; exact pj)
      rwa [show i + (j + 1) + 1=i + 1 + j + 1 by lia] at this)
    refine ⟨σ2,h2,by simp [forL_cons,e1,e2],?_⟩
    rwa [show i + (y::r).length=i + 1 + r.length by simp; lia]
end MP
end
section
namespace SD
open PySem PySem.Spec PyProof.Rows L2 L3 M3 MP
structure Tx where
  adr:String→Addr
  K:PySem.W.Frag
  cd:Addr:=0
  tb:Addr:=0
  lp:Pos:=⟨0,0,0,0⟩
  lq:Str:=Str.ofString ""
instance:CoeFun Tx (fun _=>String→Addr):=⟨Tx.adr⟩
noncomputable def ScrK (K:PySem.W.Frag) (a:Addr) (ns:List Int):Prop:=∃ (o:Obj) (its:Array Value) (n:Nat),K.lookup a=some o∧o.cls=.type "list"∧o.dict=none∧o.data=.seq its n∧its.size≤sizeLine∧Vals (ns.map V.int) its.toList
noncomputable def Liv (μ:List Addr) (h:MH) (b:Addr):Prop:=∃ (i:Nat) (c:Cell),μ[i]?=some b∧h[i]?=some c∧c≠Cell.dead
section
variable (ct:Tx)
mutual
noncomputable def RF (L:Addr→Prop) (H:Hp):FV→V→Prop
  | .non,v=>v=.non
  | .bl b,v=>v=.bl b
  | .int i,v=>v=.int i
  | .str x,v=>v=.str x
  | .tup xs,v=>∃ a vs,v=.ref a∧¬ L a∧H a=some (.tup vs)∧RFs L H xs vs
  | .lst xs,v=>∃ a vs,v=.ref a∧¬ L a∧Rd H a (.lst vs)∧RFs L H xs vs
  | .obj c ns xs,v=>∃ a dx fs,v=.ref a∧¬ L a∧H a=some (.ins (ct c) dx fs)∧fs.map Prod.fst=ns.map Str.ofString∧RFs L H xs (fs.map Prod.snd)
  | .tab kvs,v=>∃ a o,v=.ref a∧¬ L a∧H a=some (.frz o (.dT (kvs.map fun kv=>([(Sum.inl kv.1.1:Key),Sum.inl kv.1.2],V.int kv.2))))
  | .msk ks,v=>∃ a o,v=.ref a∧¬ L a∧H a=some (.frz o (.dT (ks.map fun k=>([(Sum.inl k.1:Key),Sum.inl k.2],V.bl true))))
  | .scr ns,v=>∃ a,v=.ref a∧((¬ L a∧∃ o,H a=some (.frz o (.lst (ns.map V.int))))∨ScrK ct.K a ns)
noncomputable def RFs (L:Addr→Prop) (H:Hp):List FV→List V→Prop
  | [],vs=>vs=[]
  | x::xs,vs=>∃ v r,vs=v::r∧RF L H x v∧RFs L H xs r
end
mutual
noncomputable def RV (μ:List Addr) (L:Addr→Prop) (H:Hp):MV→V→Prop
  | .f x,v=>RF ct L H x v
  | .ref i,v=>∃ b,μ[i]?=some b∧v=.ref b
  | .tup xs,v=>∃ a vs,v=.ref a∧¬ L a∧H a=some (.tup vs)∧RVs μ L H xs vs
  | .exc c,v=>∃ a,v=.ref a∧¬ L a∧H a=some (.ext (excP (ct c) a))
noncomputable def RVs (μ:List Addr) (L:Addr→Prop) (H:Hp):List MV→List V→Prop
  | [],vs=>vs=[]
  | x::xs,vs=>∃ v r,vs=v::r∧RV μ L H x v∧RVs μ L H xs r
end
noncomputable def CellOk (μ:List Addr) (L:Addr→Prop) (H:Hp) (b:Addr):Cell→Prop
  | .lst xs=>∃ vs,H b=some (.lst vs)∧RVs ct μ L H xs vs
  | .obj c fs=>∃ dx gs,H b=some (.ins (ct c) dx gs)∧gs.map Prod.fst=fs.map (fun p=>Str.ofString p.1)∧RVs ct μ L H (fs.map Prod.snd) (gs.map Prod.snd)
  | .dic ks=>H b=some (.dK (ks.map fun k=>((Sum.inl k:Key),V.bl true)))
  | .tab kvs=>H b=some (.dT (kvs.map fun kv=>([(Sum.inl kv.1.1:Key),Sum.inl kv.1.2],V.int kv.2)))
  | .msk ks=>H b=some (.dT (ks.map fun k=>([(Sum.inl k.1:Key),Sum.inl k.2],V.bl true)))
  | .code=>b=ct.tb∧(H b=some (.ext (tabF b ct.lp none))∨∃ c',c'≠b∧¬ L c'∧H b=some (.ext (tabF b ct.lp (some c')))∧H c'=some (.ext (codF c' ct.lq)))
  | .dead=>True
structure Rel (μ:List Addr) (h:MH) (H:Hp):Prop where
  len:μ.length=h.length
  nd:μ.Nodup
  has:∀ b∈μ,∃ o,H b=some o
  cells:∀ (i:Nat) (b:Addr) (c:Cell),μ[i]?=some b→h[i]?=some c→CellOk ct μ (Liv μ h) H b c
end
structure Ext (μ:List Addr) (h:MH) (H:Hp) (μ':List Addr) (h':MH) (H':Hp):Prop where
  pre:∃ ν,μ'=μ++ν
  keep:∀ b o,H b=some o→¬ Liv μ h b→H' b=some o
  liv:∀ b,Liv μ' h' b→Liv μ h b∨H b=none
theorem Ext.refl (μ:List Addr) (h:MH) (H:Hp):Ext μ h H μ h H:=⟨⟨[],by simp⟩,fun _ _ e _=>e,fun _ l=>.inl l⟩
theorem Ext.trans {μ μ1 μ2:List Addr} {h h1 h2:MH} {H H1 H2:Hp} (a:Ext μ h H μ1 h1 H1) (b:Ext μ1 h1 H1 μ2 h2 H2):Ext μ h H μ2 h2 H2:=by
  obtain ⟨ν,e⟩:=a.pre
  obtain ⟨ν',e'⟩:=b.pre
  refine ⟨⟨ν++ν',by rw [e',e,List.append_assoc]⟩,fun c o q n=>?_,fun c l=>?_⟩
  · refine b.keep c o (a.keep c o q n) fun l=>?_
    rcases a.liv c l with z | z
    · exact n z
    · rw [q] at z; cases z
  · rcases b.liv c l with z | z
    · exact a.liv c z
    · by_cases n:Liv μ h c
      · exact .inl n
      · cases q:H c with
        | none=>exact .inr rfl
        | some o=>rw [a.keep c o q n] at z; cases z
theorem Rd.keep {H H':Hp} {a:Addr} {u:HO} (k:∀ o,H a=some o→H' a=some o) (r:Rd H a u):Rd H' a u:=r.elim (fun e=>.inl (k _ e)) fun ⟨o,e⟩=>.inr ⟨o,k _ e⟩
theorem Rd.some {H:Hp} {a:Addr} {u:HO} (r:Rd H a u):∃ o,H a=some o:=r.elim (fun e=>⟨_,e⟩) fun ⟨_,e⟩=>⟨_,e⟩
section
variable {ct:Tx}
structure Let (L:Addr→Prop) (H:Hp) (L':Addr→Prop) (H':Hp):Prop where
  keep:∀ b o,H b=some o→¬ L b→H' b=some o
  liv:∀ b o,H b=some o→¬ L b→¬ L' b
theorem Ext.let {μ μ':List Addr} {h h':MH} {H H':Hp} (e:Ext μ h H μ' h' H'):Let (Liv μ h) H (Liv μ' h') H' :=
  ⟨e.keep,fun b o q n l=>(e.liv b l).elim n fun z=>by rw [q] at z; cases z⟩
mutual
theorem RF.to {L L':Addr→Prop} {H H':Hp} (l:Let L H L' H'):∀ {x:FV} {v:V},RF ct L H x v→RF ct L' H' x v
  | .non,_,r=>by simpa only [RF] using r
  | .bl _,_,r=>by simpa only [RF] using r
  | .int _,_,r=>by simpa only [RF] using r
  | .str _,_,r=>by simpa only [RF] using r
  | .tup xs,v,r=>by
    simp only [RF] at r ⊢
    obtain ⟨a,vs,e,n,rd,q⟩:=r
    exact ⟨a,vs,e,l.liv a _ rd n,l.keep a _ rd n,RFs.to l q⟩
  | .lst xs,v,r=>by
    simp only [RF] at r ⊢
    obtain ⟨a,vs,e,n,rd,q⟩:=r
    obtain ⟨o,ho⟩:=Rd.some rd
    exact ⟨a,vs,e,l.liv a o ho n,Rd.keep (fun o e=>l.keep a o e n) rd,RFs.to l q⟩
  | .obj c ns xs,v,r=>by
    simp only [RF] at r ⊢
    obtain ⟨a,dx,fs,e,n,ho,q1,q⟩:=r
    exact ⟨a,dx,fs,e,l.liv a _ ho n,l.keep a _ ho n,q1,RFs.to l q⟩
  | .tab kvs,v,r=>by
    simp only [RF] at r ⊢
    obtain ⟨a,o,e,n,q⟩:=r
    exact ⟨a,o,e,l.liv a _ q n,l.keep a _ q n⟩
  | .msk ks,v,r=>by
    simp only [RF] at r ⊢
    obtain ⟨a,o,e,n,q⟩:=r
    exact ⟨a,o,e,l.liv a _ q n,l.keep a _ q n⟩
  | .scr ns,v,r=>by
    simp only [RF] at r ⊢
    obtain ⟨a,e,q⟩:=r
    exact ⟨a,e,q.imp (fun ⟨n,o,h⟩=>⟨l.liv a _ h n,o,l.keep a _ h n⟩) id⟩
theorem RFs.to {L L':Addr→Prop} {H H':Hp} (l:Let L H L' H'):∀ {xs:List FV} {vs:List V},RFs ct L H xs vs→RFs ct L' H' xs vs
  | [],_,r=>by simpa only [RFs] using r
  | x::xs,vs,r=>by
    simp only [RFs] at r ⊢
    obtain ⟨v,t,e,q1,q2⟩:=r
    exact ⟨v,t,e,RF.to l q1,RFs.to l q2⟩
end
mutual
theorem RV.to {μ ν:List Addr} {L L':Addr→Prop} {H H':Hp} (l:Let L H L' H'):∀ {x:MV} {v:V},RV ct μ L H x v→RV ct (μ++ν) L' H' x v
  | .f x,v,r=>by simp only [RV] at r ⊢; exact RF.to l r
  | .ref i,v,r=>by
    simp only [RV] at r ⊢
    obtain ⟨b,e,q⟩:=r
    exact ⟨b,by rw [List.getElem?_append_left (List.getElem?_eq_some_iff.mp e).1]; exact e,q⟩
  | .tup xs,v,r=>by
    simp only [RV] at r ⊢
    obtain ⟨a,vs,e,n,rd,q⟩:=r
    exact ⟨a,vs,e,l.liv a _ rd n,l.keep a _ rd n,RVs.to l q⟩
  | .exc _,v,r=>by
    simp only [RV] at r ⊢
    obtain ⟨a,e,n,q⟩:=r
    exact ⟨a,e,l.liv a _ q n,l.keep a _ q n⟩
theorem RVs.to {μ ν:List Addr} {L L':Addr→Prop} {H H':Hp} (l:Let L H L' H'):∀ {xs:List MV} {vs:List V},RVs ct μ L H xs vs→RVs ct (μ++ν) L' H' xs vs
  | [],_,r=>by simpa only [RVs] using r
  | x::xs,vs,r=>by
    simp only [RVs] at r ⊢
    obtain ⟨v,t,e,q1,q2⟩:=r
    exact ⟨v,t,e,RV.to l q1,RVs.to l q2⟩
end
theorem RV.ext {μ μ':List Addr} {h h':MH} {H H':Hp} {x:MV} {v:V} (e:Ext μ h H μ' h' H') (r:RV ct μ (Liv μ h) H x v):RV ct μ' (Liv μ' h') H' x v:=by
  obtain ⟨ν,q⟩:=e.pre
  subst q
  exact RV.to e.let r
theorem RVs.ext {μ μ':List Addr} {h h':MH} {H H':Hp} {x:List MV} {v:List V} (e:Ext μ h H μ' h' H') (r:RVs ct μ (Liv μ h) H x v):RVs ct μ' (Liv μ' h') H' x v:=by
  obtain ⟨ν,q⟩:=e.pre
  subst q
  exact RVs.to e.let r
theorem RVs.length {μ:List Addr} {L:Addr→Prop} {H:Hp}:∀ {xs:List MV} {vs:List V},RVs ct μ L H xs vs→vs.length=xs.length
  | [],_,r=>by simp only [RVs] at r; simp [r]
  | x::xs,vs,r=>by
    simp only [RVs] at r
    obtain ⟨v,t,e,_,q⟩:=r
    simp [e,RVs.length q]
theorem RVs.get {μ:List Addr} {L:Addr→Prop} {H:Hp}:∀ {xs:List MV} {vs:List V} {i:Nat} {x:MV},RVs ct μ L H xs vs→xs[i]?=some x→∃ v,vs[i]?=some v∧RV ct μ L H x v
  | [],_,_,_,_,e=>by simp at e
  | x::xs,vs,0,y,r,e=>by
    simp only [RVs] at r
    obtain ⟨v,t,q,r1,_⟩:=r
    simp at e; subst e
    exact ⟨v,by simp [q],r1⟩
  | x::xs,vs,i + 1,y,r,e=>by
    simp only [RVs] at r
    obtain ⟨v,t,q,_,r2⟩:=r
    obtain ⟨u,h1,h2⟩:=RVs.get (i:=i) r2 (by simpa using e)
    exact ⟨u,by simp [q,h1],h2⟩
theorem RVs.get' {μ:List Addr} {L:Addr→Prop} {H:Hp} {xs:List MV} {vs:List V} {i:Nat} {v:V} (r:RVs ct μ L H xs vs) (e:vs[i]?=some v):∃ x,xs[i]?=some x∧RV ct μ L H x v:=by
  have hl:=r.length
  have hi:i < xs.length:=by rw [← hl]; exact (List.getElem?_eq_some_iff.mp e).1
  obtain ⟨u,h1,h2⟩:=r.get (i:=i) (x:=xs[i]) (by simp [hi])
  rw [e] at h1; cases h1
  exact ⟨_,by simp [hi],h2⟩
theorem RVs.cons {μ:List Addr} {L:Addr→Prop} {H:Hp} {x:MV} {v:V} {xs:List MV} {vs:List V} (a:RV ct μ L H x v) (b:RVs ct μ L H xs vs):RVs ct μ L H (x::xs) (v::vs):=by
  simp only [RVs]; exact ⟨v,vs,rfl,a,b⟩
theorem RVs.nil {μ:List Addr} {L:Addr→Prop} {H:Hp}:RVs ct μ L H [] []:=by simp only [RVs]
theorem RVs.append {μ:List Addr} {L:Addr→Prop} {H:Hp}:∀ {xs ys:List MV} {vs ws:List V},RVs ct μ L H xs vs→RVs ct μ L H ys ws→RVs ct μ L H (xs++ys) (vs++ws)
  | [],_,_,_,r,s=>by simp only [RVs] at r; subst r; exact s
  | x::xs,ys,vs,ws,r,s=>by
    simp only [RVs] at r
    obtain ⟨v,t,rfl,r1,r2⟩:=r
    exact RVs.cons r1 (RVs.append r2 s)
theorem RVs.take {μ:List Addr} {L:Addr→Prop} {H:Hp}:∀ (n:Nat) {xs:List MV} {vs:List V},RVs ct μ L H xs vs→RVs ct μ L H (xs.take n) (vs.take n)
  | 0,_,_,_=>RVs.nil
  | n + 1,[],_,r=>by simp only [RVs] at r; subst r; exact RVs.nil
  | n + 1,x::xs,vs,r=>by
    simp only [RVs] at r
    obtain ⟨v,t,rfl,r1,r2⟩:=r
    exact RVs.cons r1 (RVs.take n r2)
theorem RVs.drop {μ:List Addr} {L:Addr→Prop} {H:Hp}:∀ (n:Nat) {xs:List MV} {vs:List V},RVs ct μ L H xs vs→RVs ct μ L H (xs.drop n) (vs.drop n)
  | 0,_,_,r=>r
  | n + 1,[],_,r=>by simp only [RVs] at r; subst r; exact RVs.nil
  | n + 1,x::xs,vs,r=>by
    simp only [RVs] at r
    obtain ⟨v,t,rfl,r1,r2⟩:=r
    exact RVs.drop n r2
theorem RVs.set {μ:List Addr} {L:Addr→Prop} {H:Hp} {y:MV} {u:V} (q:RV ct μ L H y u):∀ (n:Nat) {xs:List MV} {vs:List V},RVs ct μ L H xs vs→RVs ct μ L H (xs.set n y) (vs.set n u)
  | _,[],_,r=>by simp only [RVs] at r; subst r; exact RVs.nil
  | 0,x::xs,vs,r=>by
    simp only [RVs] at r
    obtain ⟨v,t,rfl,r1,r2⟩:=r
    exact RVs.cons q r2
  | n + 1,x::xs,vs,r=>by
    simp only [RVs] at r
    obtain ⟨v,t,rfl,r1,r2⟩:=r
    exact RVs.cons r1 (RVs.set q n r2)
theorem RVs.ofF {μ:List Addr} {L:Addr→Prop} {H:Hp}:∀ {xs:List FV} {vs:List V},RFs ct L H xs vs→RVs ct μ L H (xs.map MV.f) vs
  | [],_,r=>by simp only [RFs] at r; subst r; exact RVs.nil
  | x::xs,vs,r=>by
    simp only [RFs] at r
    obtain ⟨v,t,rfl,r1,r2⟩:=r
    exact RVs.cons (by simp only [RV]; exact r1) (RVs.ofF r2)
theorem RVs.toF {μ:List Addr} {L:Addr→Prop} {H:Hp}:∀ {xs:List MV} {ys:List FV} {vs:List V},allF xs=some ys→RVs ct μ L H xs vs→RFs ct L H ys vs
  | [],ys,vs,e,r=>by simp [allF] at e; subst e; simp only [RVs] at r; subst r; simp only [RFs]
  | .f x::xs,ys,vs,e,r=>by
    simp only [allF,Option.map_eq_some_iff] at e
    obtain ⟨zs,e1,rfl⟩:=e
    simp only [RVs] at r
    obtain ⟨v,t,rfl,r1,r2⟩:=r
    simp only [RFs]
    exact ⟨v,t,rfl,by simpa only [RV] using r1,RVs.toF e1 r2⟩
  | .ref _::_,_,_,e,_=>by simp [allF] at e
  | .tup _::_,_,_,e,_=>by simp [allF] at e
  | .exc _::_,_,_,e,_=>by simp [allF] at e
end
section
variable {ct:Tx}
structure RelSt (ct:Tx) (μ:List Addr) (h:MH) (H:Hp) (σ:L2.St) (σs:MSt):Prop where
  len:σ.length=σs.length
  at_:∀ (i:Nat) (m:MV),σs[i]?=some (some m)→∃ v,σ[i]?=some (some v)∧RV ct μ (Liv μ h) H m v
theorem RelSt.ext {μ μ':List Addr} {h h':MH} {H H':Hp} {σ:L2.St} {σs:MSt} (e:Ext μ h H μ' h' H') (r:RelSt ct μ h H σ σs):RelSt ct μ' h' H' σ σs :=
  ⟨r.len,fun i m q=>let ⟨v,a,b⟩:=r.at_ i m q; ⟨v,a,b.ext e⟩⟩
theorem RelSt.set {μ:List Addr} {h:MH} {H:Hp} {σ:L2.St} {σs:MSt} {m:MV} {v:V} (i:Nat) (r:RelSt ct μ h H σ σs) (q:RV ct μ (Liv μ h) H m v):RelSt ct μ h H (σ.set i (some v)) (σs.set i (some m)):=by
  refine ⟨by simp [r.len],fun j m' e=>?_⟩
  by_cases hj:i=j
  · subst hj
    have hi:i < σs.length:=by
      have:=(List.getElem?_eq_some_iff.mp e).1
      simpa using this
    rw [List.getElem?_set_self hi] at e
    cases e
    exact ⟨v,by rw [List.getElem?_set_self (by rw [r.len]; exact hi)],q⟩
  · rw [List.getElem?_set_ne hj] at e
    obtain ⟨u,a,b⟩:=r.at_ j m' e
    exact ⟨u,by rw [List.getElem?_set_ne hj]; exact a,b⟩
noncomputable def Po {α:Type} (ct:Tx) (E:XK) (r:R α) (μ:List Addr) (h:MH) (H:Hp) (k:α→List Addr→MH→Hp→Prop):Prop:=match r with
  | .ok x h'=>∀ μ' H',Ext μ h H μ' h' H'→Rel ct μ' h' H'→k x μ' h' H'
  | .exc c h'=>∀ μ' H',Ext μ h H μ' h' H'→Rel ct μ' h' H'→E (.ref (ct c)) none H'
  | .stuck=>False
section
variable {α β:Type} {E:XK} {μ μ1:List Addr} {h h1:MH} {H H1:Hp}
theorem Po.start {r:R α} {k:α→List Addr→MH→Hp→Prop} (e:Ext μ h H μ1 h1 H1) (p:Po ct E r μ h H k):Po ct E r μ1 h1 H1 k:=by
  cases r with
  | ok x h'=>exact fun μ' H' e' r'=>p μ' H' (e.trans e') r'
  | exc c h'=>exact fun μ' H' e' r'=>p μ' H' (e.trans e') r'
  | stuck=>exact p
theorem Po.bind {r:R α} {g:α→MH→R β} {k:β→List Addr→MH→Hp→Prop} (p:Po ct E (r.bind g) μ h H k):Po ct E r μ h H fun x μ1 h1 H1=>Ext μ h H μ1 h1 H1∧Rel ct μ1 h1 H1∧Po ct E (g x h1) μ1 h1 H1 k:=by
  cases r with
  | ok x h'=>exact fun μ' H' e' r'=>⟨e',r',Po.start (r:=g x h') e' p⟩
  | exc c h'=>exact p
  | stuck=>exact p
theorem Po.imp {r:R α} {k k':α→List Addr→MH→Hp→Prop} (p:Po ct E r μ h H k) (f:∀ x μ1 h1 H1,k x μ1 h1 H1→k' x μ1 h1 H1):Po ct E r μ h H k':=by
  cases r with
  | ok x h'=>exact fun μ' H' e' r'=>f _ _ _ _ (p μ' H' e' r')
  | exc c h'=>exact p
  | stuck=>exact p
theorem Po.opt {o:Option α} {g:α→R β} {k:β→List Addr→MH→Hp→Prop} (p:Po ct E (opt o g) μ h H k):∃ x,o=some x∧Po ct E (g x) μ h H k:=by
  cases o with
  | none=>exact p.elim
  | some x=>exact ⟨x,rfl,p⟩
theorem Po.now {x:α} {k:α→List Addr→MH→Hp→Prop} (rel:Rel ct μ h H) (p:Po ct E (.ok x h) μ h H k):k x μ h H:=p μ H (Ext.refl _ _ _) rel
theorem Po.now' {x:α} {h':MH} {k:α→List Addr→MH→Hp→Prop} (p:Po ct E (.ok x h') μ h H k) {μ':List Addr} {H':Hp} (e:Ext μ h H μ' h' H') (rel:Rel ct μ' h' H'):k x μ' h' H':=p μ' H' e rel
end
noncomputable def kV (ct:Tx) (Q:VK):MV→List Addr→MH→Hp→Prop:=fun m μ h H=>∀ v,RV ct μ (Liv μ h) H m v→Q v H
noncomputable def kVs (ct:Tx) (Q:List V→Hp→Prop):List MV→List Addr→MH→Hp→Prop:=fun m μ h H=>∀ v,RVs ct μ (Liv μ h) H m v→Q v H
section
variable (ct) (Ra:L2.St→Prop) (E:XK)
noncomputable def lE (ev:MSt→MH→R MV):TE:=fun σ H Q=>∃ μ h σs,Rel ct μ h H∧RelSt ct μ h H σ σs∧Ra σ∧Po ct E (ev σs h) μ h H (kV ct Q)
noncomputable def lT (ev:MSt→MH→R Bool):TT:=fun σ H Q=>∃ μ h σs,Rel ct μ h H∧RelSt ct μ h H σ σs∧Ra σ∧Po ct E (ev σs h) μ h H fun b _ _ H'=>Q b H'
noncomputable def lA (ev:MSt→MH→R (List MV)):TA:=fun σ H Q=>∃ μ h σs,Rel ct μ h H∧RelSt ct μ h H σ σs∧Ra σ∧Po ct E (ev σs h) μ h H (kVs ct Q)
noncomputable def lO (ev:MSt→MH→R (Option Int)):TO:=fun σ H Q=>∃ μ h σs,Rel ct μ h H∧RelSt ct μ h H σ σs∧Ra σ∧Po ct E (ev σs h) μ h H fun b _ _ H'=>Q b H'
end
section
variable {Ra:L2.St→Prop} {E:XK} {μ:List Addr} {h:MH} {H:Hp} {σ:L2.St} {σs:MSt} {β:Type}
theorem lE.mk {ev:MSt→MH→R MV} {g:MV→MH→R β} {k:β→List Addr→MH→Hp→Prop} {Q:VK} (rel:Rel ct μ h H) (rst:RelSt ct μ h H σ σs) (ra:Ra σ) (p:Po ct E ((ev σs h).bind g) μ h H k)
    (f:∀ m v μ1 h1 H1,Ext μ h H μ1 h1 H1→Rel ct μ1 h1 H1→RelSt ct μ1 h1 H1 σ σs→RV ct μ1 (Liv μ1 h1) H1 m v→Po ct E (g m h1) μ1 h1 H1 k→Q v H1):lE ct Ra E ev σ H Q :=
  ⟨μ,h,σs,rel,rst,ra,(Po.bind p).imp fun m μ1 h1 H1 ⟨e1,r1,p1⟩ v rv=>f m v μ1 h1 H1 e1 r1 (rst.ext e1) rv p1⟩
theorem lT.mk {ev:MSt→MH→R Bool} {g:Bool→MH→R β} {k:β→List Addr→MH→Hp→Prop} {Q:Bool→Hp→Prop} (rel:Rel ct μ h H) (rst:RelSt ct μ h H σ σs) (ra:Ra σ) (p:Po ct E ((ev σs h).bind g) μ h H k)
    (f:∀ m μ1 h1 H1,Ext μ h H μ1 h1 H1→Rel ct μ1 h1 H1→RelSt ct μ1 h1 H1 σ σs→Po ct E (g m h1) μ1 h1 H1 k→Q m H1):lT ct Ra E ev σ H Q :=
  ⟨μ,h,σs,rel,rst,ra,(Po.bind p).imp fun m μ1 h1 H1 ⟨e1,r1,p1⟩=>f m μ1 h1 H1 e1 r1 (rst.ext e1) p1⟩
theorem lA.mk {ev:MSt→MH→R (List MV)} {g:List MV→MH→R β} {k:β→List Addr→MH→Hp→Prop} {Q:List V→Hp→Prop} (rel:Rel ct μ h H) (rst:RelSt ct μ h H σ σs) (ra:Ra σ) (p:Po ct E ((ev σs h).bind g) μ h H k)
    (f:∀ m v μ1 h1 H1,Ext μ h H μ1 h1 H1→Rel ct μ1 h1 H1→RelSt ct μ1 h1 H1 σ σs→RVs ct μ1 (Liv μ1 h1) H1 m v→Po ct E (g m h1) μ1 h1 H1 k→Q v H1):lA ct Ra E ev σ H Q :=
  ⟨μ,h,σs,rel,rst,ra,(Po.bind p).imp fun m μ1 h1 H1 ⟨e1,r1,p1⟩ v rv=>f m v μ1 h1 H1 e1 r1 (rst.ext e1) rv p1⟩
theorem lO.mk {ev:MSt→MH→R (Option Int)} {g:Option Int→MH→R β} {k:β→List Addr→MH→Hp→Prop} {Q:Option Int→Hp→Prop} (rel:Rel ct μ h H) (rst:RelSt ct μ h H σ σs) (ra:Ra σ) (p:Po ct E ((ev σs h).bind g) μ h H k)
    (f:∀ m μ1 h1 H1,Ext μ h H μ1 h1 H1→Rel ct μ1 h1 H1→RelSt ct μ1 h1 H1 σ σs→Po ct E (g m h1) μ1 h1 H1 k→Q m H1):lO ct Ra E ev σ H Q :=
  ⟨μ,h,σs,rel,rst,ra,(Po.bind p).imp fun m μ1 h1 H1 ⟨e1,r1,p1⟩=>f m μ1 h1 H1 e1 r1 (rst.ext e1) p1⟩
end
section
variable {μ:List Addr} {h:MH} {H:Hp}
theorem Liv.has (rel:Rel ct μ h H) {b:Addr} (l:Liv μ h b):∃ o,H b=some o:=let ⟨i,_,e,_,_⟩:=l; rel.has b (List.mem_of_getElem? e)
theorem Rel.fresh (rel:Rel ct μ h H) {p:Addr} (hp:H p=none):p∉μ:=fun z=>by obtain ⟨o,e⟩:=rel.has p z; rw [hp] at e; cases e
theorem Ext.new (rel:Rel ct μ h H) {p:Addr} (hp:H p=none) (o:HO):Ext μ h H μ h (upd H p o) :=
  ⟨⟨[],by simp⟩,fun b u e _=>by rw [upd_ne (ne_of_none e hp)]; exact e,fun b l=>.inl l⟩
theorem CellOk.to {μ ν:List Addr} {L L':Addr→Prop} {H H':Hp} {b:Addr} {c:Cell} (l:Let L H L' H') (kb:c≠.dead→H' b=H b) (r:CellOk ct μ L H b c):CellOk ct (μ++ν) L' H' b c:=by
  cases c with
  | lst xs =>
    obtain ⟨vs,e,q⟩:=r
    exact ⟨vs,by rw [kb (fun z=>nomatch z)]; exact e,RVs.to l q⟩
  | obj c fs =>
    obtain ⟨dx,gs,e,q1,q⟩:=r
    exact ⟨dx,gs,by rw [kb (fun z=>nomatch z)]; exact e,q1,RVs.to l q⟩
  | dic ks=>exact (kb (fun z=>nomatch z)).trans r
  | tab ks=>exact (kb (fun z=>nomatch z)).trans r
  | msk ks=>exact (kb (fun z=>nomatch z)).trans r
  | code =>
    obtain ⟨e,r⟩:=r
    have kb:=kb (fun z=>nomatch z)
    refine ⟨e,r.elim (fun r=>.inl (kb.trans r)) fun ⟨c',n1,n2,r1,r2⟩=>.inr ⟨c',n1,l.liv _ _ r2 n2,kb.trans r1,l.keep _ _ r2 n2⟩⟩
  | dead=>trivial
theorem Rel.new (rel:Rel ct μ h H) {p:Addr} (hp:H p=none) (o:HO):Rel ct μ h (upd H p o):=by
  refine ⟨rel.len,rel.nd,fun b hb=>?_,fun i b c e1 e2=>?_⟩
  · obtain ⟨u,e⟩:=rel.has b hb
    exact ⟨u,by rw [upd_ne (ne_of_none e hp)]; exact e⟩
  · have:=CellOk.to (ν:=[]) (Ext.new rel hp o).let (b:=b) (fun _=>by
      obtain ⟨u,e⟩:=rel.has b (List.mem_of_getElem? e1)
      exact upd_ne (ne_of_none e hp)) (rel.cells i b c e1 e2)
    simpa using this
theorem Liv.app {μ:List Addr} {h:MH} (hl:μ.length=h.length) {p b:Addr} {c:Cell} (l:Liv (μ++[p]) (h++[c]) b):Liv μ h b∨b=p:=by
  obtain ⟨i,d,e1,e2,nd⟩:=l
  by_cases hi:i < μ.length
  · rw [List.getElem?_append_left hi] at e1
    rw [List.getElem?_append_left (by lia)] at e2
    exact .inl ⟨i,d,e1,e2,nd⟩
  · rw [List.getElem?_append_right (by lia)] at e1
    have:i - μ.length=0:=by
      have:=(List.getElem?_eq_some_iff.mp e1).1
      simp at this; lia
    rw [this] at e1
    simp at e1
    exact .inr e1.symm
theorem Ext.cell (rel:Rel ct μ h H) {p:Addr} (hp:H p=none) (c:Cell) (o:HO):Ext μ h H (μ++[p]) (h++[c]) (upd H p o) :=
  ⟨⟨[p],rfl⟩,fun b u e _=>by rw [upd_ne (ne_of_none e hp)]; exact e,fun b l=>(Liv.app rel.len l).imp id fun e=>by rw [e]; exact hp⟩
theorem Rel.cell (rel:Rel ct μ h H) {p:Addr} (hp:H p=none) {c:Cell} {o:HO} (q:CellOk ct (μ++[p]) (Liv (μ++[p]) (h++[c])) (upd H p o) p c):Rel ct (μ++[p]) (h++[c]) (upd H p o):=by
  have hn:=rel.fresh hp
  refine ⟨by simp [rel.len],?_,fun b hb=>?_,fun i b d e1 e2=>?_⟩
  · rw [List.nodup_append]
    exact ⟨rel.nd,by simp,fun a ha b hb e=>by simp at hb; subst hb; subst e; exact hn ha⟩
  · rcases List.mem_append.mp hb with hb | hb
    · obtain ⟨u,e⟩:=rel.has b hb
      exact ⟨u,by rw [upd_ne (ne_of_none e hp)]; exact e⟩
    · simp at hb; subst hb; exact ⟨o,upd_same⟩
  · by_cases hi:i < μ.length
    · rw [List.getElem?_append_left hi] at e1
      rw [List.getElem?_append_left (by have:=rel.len; lia)] at e2
      exact CellOk.to (Ext.cell rel hp c o).let (fun _=>by
        obtain ⟨u,e⟩:=rel.has b (List.mem_of_getElem? e1)
        exact upd_ne (ne_of_none e hp)) (rel.cells i b d e1 e2)
    · rw [List.getElem?_append_right (by lia)] at e1
      rw [List.getElem?_append_right (by have:=rel.len; lia)] at e2
      have:i - μ.length=0:=by
        have:=(List.getElem?_eq_some_iff.mp e1).1
        simp at this; lia
      have h2:i - h.length=0:=by rw [← rel.len]; exact this
      rw [this] at e1; rw [h2] at e2
      simp at e1 e2
      subst e1; subst e2
      exact q
theorem Liv.set {i:Nat} {c c':Cell} {b:Addr} (e:h[i]?=some c) (hc:c≠.dead) (l:Liv μ (h.set i c') b):Liv μ h b:=by
  obtain ⟨j,d,e1,e2,nd⟩:=l
  by_cases hj:i=j
  · subst hj; exact ⟨i,c,e1,e,hc⟩
  · rw [List.getElem?_set_ne hj] at e2; exact ⟨j,d,e1,e2,nd⟩
theorem Ext.set (rel:Rel ct μ h H) {i:Nat} {b:Addr} {c:Cell} (e1:μ[i]?=some b) (e2:h[i]?=some c) (hc:c≠.dead) (c':Cell) (o:HO):Ext μ h H μ (h.set i c') (upd H b o) :=
  ⟨⟨[],by simp⟩,fun d u e n=>by rw [upd_ne (fun (z:d=b)=>n (by rw [z]; exact ⟨i,c,e1,e2,hc⟩))]; exact e,fun d l=>.inl (Liv.set e2 hc l)⟩
theorem Rel.set (rel:Rel ct μ h H) {i:Nat} {b:Addr} {c:Cell} (e1:μ[i]?=some b) (e2:h[i]?=some c) (hc:c≠.dead) {c':Cell} {o:HO} (q:CellOk ct μ (Liv μ (h.set i c')) (upd H b o) b c'):Rel ct μ (h.set i c') (upd H b o):=by
  refine ⟨by simp [rel.len],rel.nd,fun d hd=>?_,fun j d u q1 q2=>?_⟩
  · by_cases hdb:d=b
    · exact ⟨o,by rw [hdb]; exact upd_same⟩
    · obtain ⟨u,e⟩:=rel.has d hd
      exact ⟨u,by rw [upd_ne hdb]; exact e⟩
  · by_cases hj:i=j
    · subst hj
      rw [e1] at q1; cases q1
      rw [List.getElem?_set_self (List.getElem?_eq_some_iff.mp e2).1] at q2
      cases q2
      exact q
    · rw [List.getElem?_set_ne hj] at q2
      have ne:d≠b:=fun z=>by
        subst z
        exact hj ((List.getElem?_inj (List.getElem?_eq_some_iff.mp e1).1 rel.nd).mp (e1.trans q1.symm))
      have:=CellOk.to (ν:=[]) (Ext.set rel e1 e2 hc c' o).let (b:=d) (fun _=>upd_ne ne) (rel.cells j d u q1 q2)
      simpa using this
end
end
section
variable {ct:Tx}
section
variable {μ:List Addr} {h:MH} {H:Hp}
theorem kill_get {as:List Nat} {i:Nat} {c:Cell} (e:(kill as h)[i]?=some c):(i∈as∧c=.dead)∨(i∉as∧h[i]?=some c):=by
  unfold kill at e
  rw [List.getElem?_mapIdx] at e
  cases q:h[i]? with
  | none=>rw [q] at e; cases e
  | some d =>
    rw [q] at e
    by_cases hi:i∈as
    · simp [hi] at e; exact .inl ⟨hi,e.symm⟩
    · simp [hi] at e; subst e; exact .inr ⟨hi,rfl⟩
theorem Liv.kill {as:List Nat} {b:Addr} (l:Liv μ (kill as h) b):Liv μ h b:=by
  obtain ⟨i,c,e1,e2,nd⟩:=l
  rcases kill_get e2 with ⟨_,z⟩ | ⟨_,z⟩
  · exact absurd z nd
  · exact ⟨i,c,e1,z,nd⟩
theorem Ext.kill (as:List Nat):Ext μ h H μ (kill as h) H:=⟨⟨[],by simp⟩,fun _ _ e _=>e,fun b l=>.inl l.kill⟩
theorem Rel.kill (rel:Rel ct μ h H) (as:List Nat):Rel ct μ (kill as h) H:=by
  refine ⟨by rw [rel.len]; simp [MP.kill],rel.nd,rel.has,fun i b c e1 e2=>?_⟩
  rcases kill_get e2 with ⟨_,z⟩ | ⟨_,z⟩
  · subst z; trivial
  · have:=CellOk.to (ν:=[]) (Ext.kill (H:=H) as).let (b:=b) (fun _=>rfl) (rel.cells i b c e1 z)
    simpa using this
theorem cellL_some {i:Nat} {xs:List MV} (e:cellL h i=some xs):h[i]?=some (.lst xs):=by
  unfold cellL at e
  split at e
  next q=>cases e; exact q
  next=>cases e
theorem Rel.lst (rel:Rel ct μ h H) {i:Nat} {xs:List MV} (e:cellL h i=some xs):∃ b vs,μ[i]?=some b∧H b=some (.lst vs)∧RVs ct μ (Liv μ h) H xs vs:=by
  have e2:=cellL_some e
  have hi:i < μ.length:=by rw [rel.len]; exact (List.getElem?_eq_some_iff.mp e2).1
  obtain ⟨vs,q1,q2⟩:=rel.cells i μ[i] (.lst xs) (by simp [hi]) e2
  exact ⟨_,vs,by simp [hi],q1,q2⟩
theorem dead_not {as:List Nat} (rel:Rel ct μ h H) {i:Nat} {b:Addr} (e:μ[i]?=some b) (hi:i∈as):¬ Liv μ (MP.kill as h) b:=fun ⟨j,c,e1,e2,nd⟩=>by
  have:i=j:=(List.getElem?_inj (List.getElem?_eq_some_iff.mp e).1 rel.nd).mp (e.trans e1.symm)
  subst this
  rcases kill_get e2 with ⟨_,z⟩ | ⟨z,_⟩
  · exact nd z
  · exact z hi
theorem mapM_rfs {as:List Nat} {g:MV→Option FV}:∀ {xs:List MV} {ys:List FV} {vs:List V},xs.mapM g=some ys→RVs ct μ (Liv μ h) H xs vs →
    (∀ x∈xs,∀ y v,g x=some y→RV ct μ (Liv μ h) H x v→RF ct (Liv μ (MP.kill as h)) H y v)→RFs ct (Liv μ (MP.kill as h)) H ys vs
  | [],ys,vs,e,r,_=>by
    simp at e; subst e; simp only [RVs] at r; subst r; simp only [RFs]
  | x::xs,ys,vs,e,r,f=>by
    simp only [List.mapM_cons,Option.bind_eq_bind,Option.bind_eq_some_iff,Option.pure_def,Option.some.injEq] at e
    obtain ⟨y,e1,zs,e2,rfl⟩:=e
    simp only [RVs] at r
    obtain ⟨v,t,rfl,r1,r2⟩:=r
    simp only [RFs]
    exact ⟨v,t,rfl,f x (by simp) y v e1 r1,mapM_rfs e2 r2 fun z hz=>f z (by simp [hz])⟩
theorem deep_rf (rel:Rel ct μ h H) {as:List Nat}:∀ (n:Nat) (m:MV) (x:FV) (v:V),(∀ a∈cellsN h n m,a∈as)→deepN h n m=some x→RV ct μ (Liv μ h) H m v→RF ct (Liv μ (MP.kill as h)) H x v
  | 0,m,x,v,_,e,_=>by simp [deepN] at e
  | n + 1,.f y,x,v,_,e,r=>by
    simp [deepN] at e; subst e
    simp only [RV] at r
    exact RF.to (Ext.kill (H:=H) as).let r
  | n + 1,.tup xs,x,v,hs,e,r=>by
    simp only [deepN,Option.map_eq_some_iff] at e
    obtain ⟨ys,e1,rfl⟩:=e
    simp only [RV] at r
    obtain ⟨a,vs,rfl,na,rd,q⟩:=r
    simp only [RF]
    refine ⟨a,vs,rfl,fun l=>na l.kill,rd,mapM_rfs e1 q fun z hz y u ez ru=>deep_rf rel n z y u (fun a ha=>hs a ?_) ez ru⟩
    simp only [cellsN,List.mem_flatMap]
    exact ⟨z,hz,ha⟩
  | n + 1,.ref i,x,v,hs,e,r=>by
    simp only [deepN,Option.bind_eq_some_iff,Option.map_eq_some_iff] at e
    obtain ⟨xs,e0,ys,e1,rfl⟩:=e
    simp only [RV] at r
    obtain ⟨b,eb,rfl⟩:=r
    obtain ⟨b',vs,eb',hb,q⟩:=rel.lst e0
    rw [eb] at eb'; cases eb'
    simp only [RF]
    refine ⟨b,vs,rfl,dead_not rel eb (hs i (by simp [cellsN])),.inl hb,mapM_rfs e1 q fun z hz y u ez ru=>deep_rf rel n z y u (fun a ha=>hs a ?_) ez ru⟩
    simp only [cellsN,e0,Option.getD_some,List.mem_cons,List.mem_flatMap]
    exact .inr ⟨z,hz,ha⟩
  | n + 1,.exc _,x,v,_,e,_=>by simp [deepN] at e
theorem frz_ok {E:XK} {m:MV} {v:V} {k:MV→List Addr→MH→Hp→Prop} (rel:Rel ct μ h H) (r:RV ct μ (Liv μ h) H m v) (p:Po ct E (frzV m h) μ h H k) :
    ∃ x h',Ext μ h H μ h' H∧Rel ct μ h' H∧RV ct μ (Liv μ h') H (.f x) v∧k (.f x) μ h' H:=by
  unfold frzV at p
  obtain ⟨x,e,p⟩:=p.opt
  refine ⟨x,_,Ext.kill _,rel.kill _,?_,p.now' (Ext.kill _) (rel.kill _)⟩
  simp only [RV]
  exact deep_rf rel 5 m x v (fun a ha=>ha) e r
end
mutual
noncomputable def Bel (n:Nat):MV→Prop
  | .ref i=>i < n
  | .tup xs=>Bels n xs
  | _=>True
noncomputable def Bels (n:Nat):List MV→Prop
  | []=>True
  | x::xs=>Bel n x∧Bels n xs
end
mutual
theorem RV.bel {μ:List Addr} {L:Addr→Prop} {H:Hp}:∀ {m:MV} {v:V},RV ct μ L H m v→Bel μ.length m
  | .f _,_,_=>by simp only [Bel]
  | .ref i,v,r=>by
    simp only [RV] at r
    obtain ⟨b,e,_⟩:=r
    simp only [Bel]; exact (List.getElem?_eq_some_iff.mp e).1
  | .tup xs,v,r=>by
    simp only [RV] at r
    obtain ⟨a,vs,_,_,_,q⟩:=r
    simp only [Bel]; exact RVs.bel q
  | .exc _,_,_=>by simp only [Bel]
theorem RVs.bel {μ:List Addr} {L:Addr→Prop} {H:Hp}:∀ {xs:List MV} {vs:List V},RVs ct μ L H xs vs→Bels μ.length xs
  | [],_,_=>by simp only [Bels]
  | x::xs,vs,r=>by
    simp only [RVs] at r
    obtain ⟨v,t,_,r1,r2⟩:=r
    simp only [Bels]; exact ⟨RV.bel r1,RVs.bel r2⟩
end
mutual
theorem RV.cut {μ ν:List Addr} {L L':Addr→Prop} {H:Hp} (l:∀ b,L' b→L b):∀ {m:MV} {v:V},Bel μ.length m→RV ct (μ++ν) L H m v→RV ct μ L' H m v
  | .f x,v,_,r=>by simp only [RV] at r ⊢; exact RF.to ⟨fun _ _ e _=>e,fun b _ _ n z=>n (l b z)⟩ r
  | .ref i,v,b,r=>by
    simp only [RV] at r ⊢
    simp only [Bel] at b
    obtain ⟨c,e,q⟩:=r
    rw [List.getElem?_append_left b] at e
    exact ⟨c,e,q⟩
  | .tup xs,v,b,r=>by
    simp only [RV] at r ⊢
    simp only [Bel] at b
    obtain ⟨a,vs,e,n,rd,q⟩:=r
    exact ⟨a,vs,e,fun z=>n (l a z),rd,RVs.cut l b q⟩
  | .exc _,v,_,r=>by
    simp only [RV] at r ⊢
    obtain ⟨a,e,n,q⟩:=r
    exact ⟨a,e,fun z=>n (l a z),q⟩
theorem RVs.cut {μ ν:List Addr} {L L':Addr→Prop} {H:Hp} (l:∀ b,L' b→L b):∀ {xs:List MV} {vs:List V},Bels μ.length xs→RVs ct (μ++ν) L H xs vs→RVs ct μ L' H xs vs
  | [],vs,_,r=>by simpa only [RVs] using r
  | x::xs,vs,b,r=>by
    simp only [RVs] at r ⊢
    simp only [Bels] at b
    obtain ⟨v,t,e,r1,r2⟩:=r
    exact ⟨v,t,e,RV.cut l b.1 r1,RVs.cut l b.2 r2⟩
end
theorem Bels.flat (n:Nat):∀ ys:List FV,Bels n (ys.map MV.f)
  | []=>by simp only [List.map_nil,Bels]
  | y::ys=>by simp only [List.map_cons,Bels,Bel]; exact ⟨trivial,Bels.flat n ys⟩
noncomputable def CellBel (n:Nat):Cell→Prop
  | .lst xs=>Bels n xs
  | .obj _ fs=>Bels n (fs.map Prod.snd)
  | .dic _=>True
  | .tab _=>True
  | .msk _=>True
  | .code=>True
  | .dead=>True
theorem CellOk.bel {μ:List Addr} {L:Addr→Prop} {H:Hp} {b:Addr} {c:Cell} (r:CellOk ct μ L H b c):CellBel μ.length c:=by
  cases c with
  | lst xs=>obtain ⟨vs,_,q⟩:=r; exact q.bel
  | obj c fs=>obtain ⟨dx,gs,_,_,q⟩:=r; exact q.bel
  | dic ks=>trivial
  | tab ks=>trivial
  | msk ks=>trivial
  | code=>trivial
  | dead=>trivial
theorem FlatC.bel {n:Nat} {c:Cell} (r:FlatC c):CellBel n c:=by
  cases c with
  | lst xs=>obtain ⟨ys,rfl⟩:=r; exact Bels.flat n ys
  | obj c fs =>
    obtain ⟨ys,rfl⟩:=r
    show Bels n _
    rw [List.map_map]
    have:=Bels.flat n (ys.map Prod.snd)
    rw [List.map_map] at this
    exact this
  | dic ks=>trivial
  | tab ks=>trivial
  | msk ks=>trivial
  | code=>trivial
  | dead=>trivial
theorem CellOk.cut {μ ν:List Addr} {L L':Addr→Prop} {H:Hp} {b:Addr} {c:Cell} (l:∀ b,L' b→L b) (k:CellBel μ.length c) (r:CellOk ct (μ++ν) L H b c):CellOk ct μ L' H b c:=by
  cases c with
  | lst xs=>obtain ⟨vs,e,q⟩:=r; exact ⟨vs,e,RVs.cut l k q⟩
  | obj c fs=>obtain ⟨dx,gs,e,q1,q⟩:=r; exact ⟨dx,gs,e,q1,RVs.cut l k q⟩
  | dic ks=>exact r
  | tab ks=>exact r
  | msk ks=>exact r
  | code=>exact ⟨r.1,r.2.imp id fun ⟨c',n1,n2,r⟩=>⟨c',n1,fun z=>n2 (l _ z),r⟩⟩
  | dead=>trivial
theorem allF_eq:∀ {xs:List MV} {ys:List FV},allF xs=some ys→xs=ys.map MV.f
  | [],ys,e=>by simp [allF] at e; subst e; rfl
  | .f x::xs,ys,e=>by
    simp only [allF,Option.map_eq_some_iff] at e
    obtain ⟨zs,e1,rfl⟩:=e
    rw [allF_eq e1]; rfl
  | .ref _::_,_,e=>by simp [allF] at e
  | .tup _::_,_,e=>by simp [allF] at e
  | .exc _::_,_,e=>by simp [allF] at e
section
variable {μ ν:List Addr} {h h':MH} {H H':Hp}
theorem Liv.cut (hl:μ.length=h.length) {b:Addr} (l:Liv μ (h'.take h.length) b):Liv (μ++ν) h' b:=by
  obtain ⟨i,c,e1,e2,nd⟩:=l
  have hi:i < μ.length:=(List.getElem?_eq_some_iff.mp e1).1
  rw [List.getElem?_take_of_lt (by lia)] at e2
  exact ⟨i,c,by rw [List.getElem?_append_left hi]; exact e1,e2,nd⟩
theorem Ext.cut (hl:μ.length=h.length) (e:Ext μ h H (μ++ν) h' H'):Ext μ h H μ (h'.take h.length) H':=⟨⟨[],by simp⟩,e.keep,fun b l=>e.liv b (Liv.cut hl l)⟩
theorem Rel.cut (rel:Rel ct μ h H) (t:TrOk h h') (rel':Rel ct (μ++ν) h' H'):Rel ct μ (h'.take h.length) H':=by
  refine ⟨by rw [rel.len,List.length_take]; have:=t.1; lia,(List.nodup_append.mp rel'.nd).1,fun b hb=>rel'.has b (List.mem_append_left _ hb),fun i b c e1 e2=>?_⟩
  have hi:i < μ.length:=(List.getElem?_eq_some_iff.mp e1).1
  have hi':i < h.length:=by rw [← rel.len]; exact hi
  rw [List.getElem?_take_of_lt hi'] at e2
  refine CellOk.cut (fun b l=>Liv.cut rel.len l) ?_ (rel'.cells i b c (by rw [List.getElem?_append_left hi]; exact e1) e2)
  rcases t.2 i c hi' e2 with q | q
  · exact (rel.cells i b c e1 q).bel
  · exact FlatC.bel q
set_option tactic.hygienic true in
theorem leave_ok {E:XK} {m:MV} {v:V} {Q:VK} (rel:Rel ct μ h H) (e:Ext μ h H (μ++ν) h' H') (rel':Rel ct (μ++ν) h' H') (r:RV ct (μ++ν) (Liv (μ++ν) h') H' m v) (p:Po ct E (leave h m h') μ h H (kV ct Q)):Q v H':=by
  unfold leave at p
  split at p
  next t =>
    cases m with
    | f x =>
      refine p μ H' (Ext.cut rel.len e) (rel.cut t rel') v ?_
      exact RV.cut (fun b l=>Liv.cut rel.len l) (by simp only [Bel]) r
    | ref a =>
      dsimp only at p
      split at p
      next ha =>
        split at p
        next xs ex =>
          split at p
          next ys ey =>
            simp only [RV] at r
            obtain ⟨b,eb,rfl⟩:=r
            obtain ⟨b',vs,eb',hb,q⟩:=rel'.lst ex
            rw [eb] at eb'; cases eb'
            have rc:=rel.cut t rel'
            have ec:=Ext.cut rel.len e
            have nb:b∉μ:=fun z=>by
              obtain ⟨j,hj,ej⟩:=List.getElem_of_mem z
              have:j=a:=(List.getElem?_inj (by simp; lia) rel'.nd).mp (by rw [List.getElem?_append_left hj,eb]; simp [hj,ej])
              have:=rel.len
              lia
            have lv:∀ d,Liv (μ++[b]) (h'.take h.length++[.lst xs]) d→Liv (μ++ν) h' d:=fun d l=>by
              rcases Liv.app (by rw [rc.len]) l with l | l
              · exact Liv.cut rel.len l
              · subst l; exact ⟨a,.lst xs,eb,cellL_some ex,fun z=>nomatch z⟩
            have fl:RFs ct (Liv (μ++ν) h') H' ys vs:=RVs.toF ey q
            have xs':xs=ys.map MV.f:=allF_eq ey
            refine p (μ++[b]) H' ⟨⟨[b],rfl⟩,e.keep,fun d l=>e.liv d (lv d l)⟩ ?_ (.ref b) ?_
            · refine ⟨by simp [rc.len],?_,fun d hd=>?_,fun i d c e1 e2=>?_⟩
              · rw [List.nodup_append]
                exact ⟨rc.nd,by simp,fun x hx y hy z=>by simp at hy; subst hy; subst z; exact nb hx⟩
              · rcases List.mem_append.mp hd with hd | hd
                · exact rc.has d hd
                · simp at hd; subst hd; exact ⟨_,hb⟩
              · by_cases hi:i < μ.length
                · rw [List.getElem?_append_left hi] at e1
                  rw [List.getElem?_append_left (by rw [← rc.len]; exact hi)] at e2
                  have c0:=rc.cells i d c e1 e2
                  have hi':i < h.length:=by rw [← rel.len]; exact hi
                  have e2':=e2
                  rw [List.getElem?_take_of_lt hi'] at e2'
                  have c1:=rel'.cells i d c (by rw [List.getElem?_append_left hi]; exact e1) e2'
                  exact CellOk.to (ν:=[b]) (L:=Liv (μ++[b]) (h'.take h.length++[.lst xs])) ⟨fun _ _ e _=>e,fun _ _ _ n=>n⟩ (fun _=>rfl) (CellOk.cut lv c0.bel c1)
                · rw [List.getElem?_append_right (by lia)] at e1
                  rw [List.getElem?_append_right (by rw [← rc.len]; lia)] at e2
                  have z:i - μ.length=0:=by
                    have:=(List.getElem?_eq_some_iff.mp e1).1
                    simp at this; lia
                  have z2:i - (h'.take h.length).length=0:=by rw [← rc.len]; exact z
                  rw [z] at e1; rw [z2] at e2
                  simp at e1 e2
                  subst e1; subst e2
                  refine ⟨vs,hb,?_⟩
                  rw [xs']
                  rw [xs'] at lv
                  exact RVs.ofF (RFs.to ⟨fun _ _ e _=>e,fun d _ _ n l=>n (lv d l)⟩ fl)
            · simp only [RV]
              exact ⟨b,by rw [← rel.len]; simp,rfl⟩
          next=>exact p (μ++ν) H' e rel' v r
        next=>exact p (μ++ν) H' e rel' v r
      next=>exact p (μ++ν) H' e rel' v r
    | tup xs=>exact p (μ++ν) H' e rel' v r
    | exc c=>exact p (μ++ν) H' e rel' v r
  next=>exact p (μ++ν) H' e rel' v r
theorem leaveX_ok {E:XK} {c:String} {k:MV→List Addr→MH→Hp→Prop} (rel:Rel ct μ h H) (e:Ext μ h H (μ++ν) h' H') (rel':Rel ct (μ++ν) h' H') (p:Po ct E (leaveX h c h') μ h H k):E (.ref (ct c)) none H':=by
  unfold leaveX at p
  split at p
  next t=>exact p μ H' (Ext.cut rel.len e) (rel.cut t rel')
  next=>exact p (μ++ν) H' e rel'
end
end
section
variable {ct:Tx} {X:Cx} {E:XK}
section
variable {μ:List Addr} {h:MH} {L:Addr→Prop} {H:Hp} {m:MV} {v:V}
theorem intOf_eq {i:Int} (e:intOf m=some i):m=.f (.int i):=by
  unfold intOf at e; split at e
  next=>cases e; rfl
  next=>cases e
theorem blOf_eq {i:Bool} (e:blOf m=some i):m=.f (.bl i):=by
  unfold blOf at e; split at e
  next=>cases e; rfl
  next=>cases e
theorem rv_int {i:Int} (r:RV ct μ L H (.f (.int i)) v):v=.int i:=by simpa only [RV,RF] using r
theorem rv_bl {i:Bool} (r:RV ct μ L H (.f (.bl i)) v):v=.bl i:=by simpa only [RV,RF] using r
theorem rv_mkI (i:Int):RV ct μ L H (.f (.int i)) (.int i):=by simp only [RV,RF]
theorem rv_mkB (i:Bool):RV ct μ L H (.f (.bl i)) (.bl i):=by simp only [RV,RF]
theorem rv_mkS (i:Str):RV ct μ L H (.f (.str i)) (.str i):=by simp only [RV,RF]
theorem rv_mkN:RV ct μ L H (.f .non) .non:=by simp only [RV,RF]
set_option tactic.hygienic true in
theorem listOf_rv {xs:List MV} (rel:Rel ct μ h H) (e:MP.listOf h m=some xs) (r:RV ct μ (Liv μ h) H m v):∃ a vs,v=.ref a∧Rd H a (.lst vs)∧RVs ct μ (Liv μ h) H xs vs:=by
  unfold MP.listOf at e; split at e
  next ys =>
    cases e
    simp only [RV,RF] at r
    obtain ⟨a,vs,e1,_,rd,q⟩:=r
    exact ⟨a,vs,e1,rd,RVs.ofF q⟩
  next i =>
    obtain ⟨b,vs,e1,e2,q⟩:=rel.lst e
    simp only [RV] at r
    obtain ⟨b',e3,rfl⟩:=r
    rw [e1] at e3; cases e3
    exact ⟨b,vs,rfl,.inl e2,q⟩
  next=>cases e
set_option tactic.hygienic true in
theorem tupOf_rv {xs:List MV} (e:tupOf m=some xs) (r:RV ct μ L H m v):∃ a vs,v=.ref a∧¬ L a∧H a=some (.tup vs)∧RVs ct μ L H xs vs:=by
  unfold tupOf at e; split at e
  next ys =>
    cases e
    simp only [RV,RF] at r
    obtain ⟨a,vs,e1,n,rd,q⟩:=r
    exact ⟨a,vs,e1,n,rd,RVs.ofF q⟩
  next ys =>
    cases e
    simp only [RV] at r
    exact r
  next=>cases e
set_option tactic.hygienic true in
theorem seqOf_split {xs:List MV} (e:seqOf h m=some xs):tupOf m=some xs∨MP.listOf h m=some xs∨∃ ns,m=.f (.scr ns)∧xs=ns.map fun i=>MV.f (.int i):=by
  unfold seqOf at e; split at e
  next=>exact .inl e
  next=>exact .inr (.inl e)
  next ns=>cases e; exact .inr (.inr ⟨ns,rfl,rfl⟩)
  next=>exact .inl e
  next=>exact .inr (.inl e)
  next=>cases e
noncomputable def SqR (ct:Tx) (H:Hp) (b:Bool) (a:Addr) (vs:List V):Prop:=SqS ct.K H b a vs
theorem SqR.s {K:PySem.W.Frag} {b:Bool} {a:Addr} {vs:List V} (hK:K=ct.K) (q:SqR ct H b a vs):SqS K H b a vs:=by rw [hK]; exact q
theorem ints_rv {L:Addr→Prop}:∀ ns:List Int,RVs ct μ L H (ns.map fun i=>MV.f (.int i)) (ns.map V.int)
  | []=>by simp only [List.map_nil,RVs]
  | i::ns=>by
    simp only [List.map_cons,RVs]
    exact ⟨.int i,_,rfl,rv_mkI i,ints_rv ns⟩
theorem scr_sq {L:Addr→Prop} {a:Addr} {ns:List Int} (q:(¬ L a∧∃ o,H a=some (.frz o (.lst (ns.map V.int))))∨ScrK ct.K a ns):SqL ct.K H a (ns.map V.int):=q.elim (fun ⟨_,o,e⟩=>.inl (.inr ⟨o,e⟩)) .inr
theorem seqOf_rv {xs:List MV} (rel:Rel ct μ h H) (e:seqOf h m=some xs) (r:RV ct μ (Liv μ h) H m v):∃ b a vs,v=.ref a∧SqR ct H b a vs∧RVs ct μ (Liv μ h) H xs vs:=by
  rcases seqOf_split e with e | e | ⟨ns,rfl,rfl⟩
  · obtain ⟨a,vs,q1,_,q2,q3⟩:=tupOf_rv e r
    exact ⟨true,a,vs,q1,SqT.of q2,q3⟩
  · obtain ⟨a,vs,q1,q2,q3⟩:=listOf_rv rel e r
    exact ⟨false,a,vs,q1,.inl q2,q3⟩
  · simp only [RV,RF] at r
    obtain ⟨a,rfl,q⟩:=r
    exact ⟨false,a,_,rfl,scr_sq q,ints_rv ns⟩
theorem liv_not (rel:Rel ct μ h H) {p:Addr} (hp:H p=none):¬ Liv μ h p:=fun l=>by obtain ⟨o,e⟩:=Liv.has rel l; rw [hp] at e; cases e
theorem newL_ok {fz:Bool} {xs:List MV} {vs:List V} {Q:VK} (rel:Rel ct μ h H) (r:RVs ct μ (Liv μ h) H xs vs) (p:Po ct E (newL fz xs h) μ h H (kV ct Q)):∀ a,H a=none→Q (.ref a) (upd H a (.lst vs)):=by
  intro a ha
  cases fz with
  | true =>
    obtain ⟨ys,e,p⟩:=Po.opt (o:=allF xs) (g:=fun ys=>R.ok (MV.f (.lst ys)) h) p
    refine p μ _ (Ext.new rel ha _) (rel.new ha _) _ ?_
    simp only [RV,RF]
    exact ⟨a,vs,rfl,liv_not rel ha,.inl upd_same,RFs.to (Ext.new rel ha _).let (RVs.toF e r)⟩
  | false =>
    refine p (μ++[a]) _ (Ext.cell rel ha _ _) (rel.cell ha ?_) _ ?_
    · exact ⟨vs,upd_same,RVs.to (Ext.cell rel ha _ _).let r⟩
    · simp only [RV]
      exact ⟨a,by rw [← rel.len]; simp,rfl⟩
set_option tactic.hygienic true in
theorem mkTup_rv {xs:List MV} {vs:List V} {a:Addr} (n:¬ L a) (rd:H a=some (.tup vs)) (r:RVs ct μ L H xs vs):RV ct μ L H (mkTup xs) (.ref a):=by
  unfold mkTup
  split
  next ys e =>
    simp only [RV,RF]
    exact ⟨a,vs,rfl,n,rd,RVs.toF e r⟩
  next =>
    simp only [RV]
    exact ⟨a,vs,rfl,n,rd,r⟩
theorem newT_ok {xs:List MV} {vs:List V} {Q:VK} (rel:Rel ct μ h H) (r:RVs ct μ (Liv μ h) H xs vs) (p:Po ct E (.ok (mkTup xs) h) μ h H (kV ct Q)):∀ a,H a=none→Q (.ref a) (upd H a (.tup vs)):=by
  intro a ha
  refine p μ _ (Ext.new rel ha _) (rel.new ha _) _ (mkTup_rv (liv_not rel ha) upd_same ?_)
  have:=RVs.to (ν:=[]) (Ext.new rel ha (.tup vs)).let r
  simpa using this
end
noncomputable def r2 (ct:Tx) (E:XK) (g:MV→MV→MH→R MV):R2:=fun x y H Q=>∃ μ h mx my,Rel ct μ h H∧RV ct μ (Liv μ h) H mx x∧RV ct μ (Liv μ h) H my y∧Po ct E (g mx my h) μ h H (kV ct Q)
theorem big_bits {i:Int} (h:i.natAbs < MP.big):Builtin.Int.intBits i≤2 ^ 20:=by
  refine intBits_le_iff.mpr (Nat.lt_of_lt_of_le h ?_)
  exact Nat.pow_le_pow_right (by decide) (by decide)
theorem op_mulM:OpR X (binaryOp .Mult) (rI mulOk fun i j=>.int (i * j)):=opI fun i j _ _ _ _ _ hc q=>by
  refine mul_int q ?_
  rcases hc with c | c | ⟨c,d⟩
  · exact .of_left (intBits_le_64 (by lia) (by lia))
  · exact .of_right (intBits_le_64 (by lia) (by lia))
  · exact .of_bits (big_bits c) (big_bits d)
theorem op_fdivM:OpR X (binaryOp .FloorDiv) (rI divOk fun i j=>.int (i / j)):=opI fun i j _ _ _ _ _ hc q=>by
  have h1:(0:Int) < j:=hc.1
  refine floordiv_int (by lia) (by rw [Int.fdiv_eq_ediv_of_nonneg i (by lia)]; exact q) (.inl (PyProof.noPylong_of_log2 ?_))
  have:j.natAbs≠0:=by lia
  rcases hc.2 with c | c
  · have:j.natAbs.log2 < 30:=(Nat.log2_lt (by lia)).mpr (by lia)
    lia
  · have:j.natAbs.log2 < 4096:=(Nat.log2_lt (by lia)).mpr c
    lia
noncomputable def rCatR:R2:=fun x y H Q=>∃ l b xs zs,x=.ref l∧y=.ref b∧Rd H l (.lst xs)∧Rd H b (.lst zs)∧xs.length + zs.length≤sizeLine∧∀ p,H p=none→Q (.ref p) (upd H p (.lst (xs++zs)))
theorem op_catR:OpR X (binaryOp .Add) rCatR:=by
  intro pins s σ H x y v u Q I rx ry h
  obtain ⟨l,b,xs,zs,rfl,rfl,hH,hB,hz,q⟩:=h
  cases rx
  cases ry
  obtain ⟨z,its,n,r,e⟩:=hH.ok I.hok
  obtain ⟨z2,its2,n2,r2,e2⟩:=hB.ok I.hok
  have hl:=r.length
  have hl2:=r2.length
  refine PySem.P.add_list e e2 ?_ (by rw [List.size_toArray,List.size_toArray]; lia)
  have ea:its.toArray++its2.toArray=(its++its2).toArray:=by simp
  rw [ea]
  exact ⟨.ref _,_,I.lnew (t':=s.toks) (r.append r2) (by rw [List.length_append]; lia),rfl,q _ I.fresh⟩
end
theorem sizeL_le:MP.sizeL≤sizeLine:=by decide
section
variable {ct:Tx} {X:Cx} {E:XK}
noncomputable def mOp:BO→Operator
  | .add=>.Add | .sub=>.Sub | .mul=>.Mult | .fdiv=>.FloorDiv | .mod=>.Mod | .pow=>.Pow
theorem OpR.imp {f:Value→Value→Sem Value} {r r':R2} (o:OpR X f r) (k:∀ x y H Q,r' x y H Q→r x y H Q):OpR X f r':=fun pins s σ H x y v u Q I rx ry q=>o pins s σ H x y v u Q I rx ry (k _ _ _ _ q)
theorem OpR.ors {f:Value→Value→Sem Value} {r r':R2} (o:OpR X f r) (o':OpR X f r'):OpR X f fun x y H Q=>r x y H Q∨r' x y H Q:=fun pins s σ H x y v u Q I rx ry q=>q.elim (o pins s σ H x y v u Q I rx ry) (o' pins s σ H x y v u Q I rx ry)
theorem bin_int {fz:Bool} {op:BO} {x y:V} {H:Hp} {Q:VK} (q:r2 ct E (binV fz op) x y H Q):(∃ i j k,x=.int i∧y=.int j∧intBin op i j=some k∧Q (.int k) H) ∨
    ∃ μ h mx my,intOf mx=none∧Rel ct μ h H∧RV ct μ (Liv μ h) H mx x∧RV ct μ (Liv μ h) H my y∧Po ct E (binV fz op mx my h) μ h H (kV ct Q):=by
  obtain ⟨μ,h,mx,my,rel,rx,ry,p⟩:=q
  cases ex:intOf mx with
  | none=>exact .inr ⟨μ,h,mx,my,ex,rel,rx,ry,p⟩
  | some i =>
    have:=intOf_eq ex; subst this
    cases ey:intOf my with
    | none =>
      unfold binV at p
      rw [ex,ey] at p
      exact p.elim
    | some j =>
      have:=intOf_eq ey; subst this
      unfold binV at p
      rw [ex,ey] at p
      obtain ⟨k,e,p⟩:=Po.opt p
      refine .inl ⟨i,j,k,rv_int rx,rv_int ry,e,?_⟩
      exact p.now rel _ (rv_mkI k)
theorem ob_sub (fz:Bool):OpR X (binaryOp .Sub) (r2 ct E (binV fz .sub)):=OpR.imp op_sub fun x y H Q q=>by
  rcases bin_int q with ⟨i,j,k,e1,e2,e3,q⟩ | ⟨μ,h,mx,my,ex,rel,rx,ry,p⟩
  · cases e3; exact ⟨i,j,e1,e2,q⟩
  · exfalso; unfold binV at p; rw [ex] at p; cases ey:intOf my <;> rw [ey] at p <;> exact p.elim
theorem ob_fdiv (fz:Bool):OpR X (binaryOp .FloorDiv) (r2 ct E (binV fz .fdiv)):=OpR.imp op_fdivM fun x y H Q q=>by
  rcases bin_int q with ⟨i,j,k,e1,e2,e3,q⟩ | ⟨μ,h,mx,my,ex,rel,rx,ry,p⟩
  · simp only [intBin] at e3
    split at e3
    next c=>cases e3; exact ⟨i,j,e1,e2,c,q⟩
    next=>cases e3
  · exfalso; unfold binV at p; rw [ex] at p; cases ey:intOf my <;> rw [ey] at p <;> exact p.elim
theorem ob_mod (fz:Bool):OpR X (binaryOp .Mod) (r2 ct E (binV fz .mod)):=OpR.imp op_mod fun x y H Q q=>by
  rcases bin_int q with ⟨i,j,k,e1,e2,e3,q⟩ | ⟨μ,h,mx,my,ex,rel,rx,ry,p⟩
  · simp only [intBin] at e3
    split at e3
    next c=>cases e3; exact ⟨i,j,e1,e2,c,q⟩
    next=>cases e3
  · exfalso; unfold binV at p; rw [ex] at p; cases ey:intOf my <;> rw [ey] at p <;> exact p.elim
theorem ob_pow (fz:Bool):OpR X (binaryOp .Pow) (r2 ct E (binV fz .pow)):=OpR.imp op_pow fun x y H Q q=>by
  rcases bin_int q with ⟨i,j,k,e1,e2,e3,q⟩ | ⟨μ,h,mx,my,ex,rel,rx,ry,p⟩
  · simp only [intBin] at e3
    split at e3
    next c=>cases e3; exact ⟨i,j,e1,e2,⟨c.1,c.2.1,c.2.2⟩,q⟩
    next=>cases e3
  · exfalso; unfold binV at p; rw [ex] at p; cases ey:intOf my <;> rw [ey] at p <;> exact p.elim
noncomputable def rRepR:R2:=fun x y H Q=>∃ l k xs,x=.ref l∧y=.int k∧Rd H l (.lst xs)∧-(2 ^ 63)≤k∧k < 2 ^ 63∧xs.length * k.toNat≤sizeLine∧∀ p,H p=none→Q (.ref p) (upd H p (.lst (List.replicate k.toNat xs).flatten))
theorem op_repR:OpR X (binaryOp .Mult) rRepR:=by
  intro pins s σ H x y v u Q I rx ry h
  obtain ⟨l,k,xs,rfl,rfl,hH,h1,h2,hz,q⟩:=h
  cases rx
  obtain ⟨t,rfl⟩:=ry
  obtain ⟨z,its,n,r,e⟩:=hH.ok I.hok
  have hl:=r.length
  have hlen:its.toArray.size * k.toNat≤sizeLine:=by rw [List.size_toArray,← hl]; exact hz
  have hcap:¬ its.toArray.size * k.toNat > (2 ^ 63 - 1) / 8:=by
    have:(sizeLine:Nat)≤(2 ^ 63 - 1) / 8:=by decide
    lia
  have hfit:¬ (!Builtin.List.listFitsIndex k)=true:=by
    rw [fitsIndex_both h1 h2]
    exact Bool.false_ne_true
  have hlong:¬ Builtin.List.listTooLong (its.toArray.size * k.toNat)=true:=by
    rw [notLongL hlen]
    exact Bool.false_ne_true
  have hnew:List.foldl (fun x1 x2=>x1++x2) #[] (List.replicate (if its.toArray.isEmpty=true then 0 else k.toNat) its.toArray)=(List.replicate k.toNat its).flatten.toArray:=by
    have f0:∀ m:Nat,List.foldl (fun x1 x2=>x1++x2) #[] (List.replicate m its.toArray)=(List.replicate m its).flatten.toArray:=fun m=>by
      have:=foldl_rep its m []
      rw [List.nil_append] at this
      exact this
    rw [f0]
    cases its with
    | nil=>simp
    | cons a r'=>rw [if_neg (by simp)]
  refine wpAny_binaryOp_repeat_ref (T:="list") (U:="int") (by decide) ⟨_,e,rfl⟩ (fun s'=>typeIs_int s' k t) noFill_list_mul F.fills_int_mul F.slot_int_rmul repeat_list F.slot_int_index.lookup
    (call_meets F.slot_int_rmul (typeIs_int s k t) F.entry_int_rmul (F.args_int_rmul_2 _ _) (int___rmul___int_list k t l its.toArray n)
      ⟨e,rfl,⟨_,e,rfl⟩,call_meets F.slot_list_mul ⟨_,e,rfl⟩ F.entry_list_mul (F.args_list_mul_2 _ _) (AutoListH.list___mul___list_int_3 l its.toArray n k t hfit hcap hlong) ⟨e,?_⟩⟩)
  rw [hnew]
  exact ⟨.ref _,_,I.lnew (t':=s.toks) (r.rep k.toNat) (by rw [len_rep,Nat.mul_comm]; exact hz),rfl,q _ I.fresh⟩
theorem RVs.rep {μ:List Addr} {L:Addr→Prop} {H:Hp} {xs:List MV} {vs:List V} (r:RVs ct μ L H xs vs):∀ n:Nat,RVs ct μ L H (List.replicate n xs).flatten (List.replicate n vs).flatten
  | 0=>by simpa using RVs.nil
  | n + 1=>by simp only [List.replicate_succ,List.flatten_cons]; exact r.append (RVs.rep r n)
theorem ob_mul (fz:Bool):OpR X (binaryOp .Mult) (r2 ct E (binV fz .mul)):=OpR.imp (OpR.ors op_mulM op_repR) fun x y H Q q=>by
  rcases bin_int q with ⟨i,j,k,e1,e2,e3,q⟩ | ⟨μ,h,mx,my,ex,rel,rx,ry,p⟩
  · simp only [intBin] at e3
    split at e3
    next c=>cases e3; exact .inl ⟨i,j,e1,e2,c,q⟩
    next=>cases e3
  · unfold binV at p; rw [ex] at p
    cases ey:intOf my with
    | none=>rw [ey] at p; exact p.elim
    | some j =>
      rw [ey] at p
      have:=intOf_eq ey; subst this
      obtain ⟨xs,e,p⟩:=Po.opt p
      obtain ⟨a,vs,rfl,rd,rs⟩:=listOf_rv rel e rx
      split at p
      next c =>
        have hl:=rs.length
        right
        refine ⟨a,j,vs,rfl,rv_int ry,rd,c.1,c.2.1,?_,newL_ok rel (rs.rep _) p⟩
        rw [hl]; exact Nat.le_trans c.2.2 sizeL_le
      next=>exact p.elim
set_option tactic.hygienic true in
theorem ob_add (fz:Bool):OpR X (binaryOp .Add) (r2 ct E (binV fz .add)):=OpR.imp (OpR.ors op_add (OpR.ors op_catT op_catR)) fun x y H Q q=>by
  rcases bin_int q with ⟨i,j,k,e1,e2,e3,q⟩ | ⟨μ,h,mx,my,ex,rel,rx,ry,p⟩
  · cases e3; exact .inl ⟨i,j,e1,e2,q⟩
  · unfold binV at p; rw [ex] at p
    cases ey:intOf my with
    | some j=>rw [ey] at p; exact p.elim
    | none =>
      rw [ey] at p
      dsimp only at p
      right
      split at p
      next xs ys e1 e2 =>
        split at p
        next c =>
          obtain ⟨a,vs,rfl,n1,rd1,r1⟩:=tupOf_rv e1 rx
          obtain ⟨b,ws,rfl,n2,rd2,r2⟩:=tupOf_rv e2 ry
          have h1:=r1.length
          have h2:=r2.length
          refine .inl ⟨a,b,vs,ws,rfl,rfl,.inl (.inl rd1),.inl (.inl rd2),fun z=>c.1 (List.eq_nil_of_length_eq_zero (by rw [← h1,z]; rfl)),by rw [h1,h2]; exact Nat.le_trans c.2 sizeL_le,fun z=>?_,fun z=>newT_ok rel (r1.append r2) p⟩
          have:ys=[]:=List.eq_nil_of_length_eq_zero (by rw [← h2,z]; rfl)
          subst this
          rw [List.append_nil] at p
          exact p.now rel _ (mkTup_rv n1 rd1 r1)
        next=>exact p.elim
      next =>
        obtain ⟨xs,e1,p⟩:=Po.opt p
        obtain ⟨ys,e2,p⟩:=Po.opt p
        split at p
        next c =>
          obtain ⟨a,vs,rfl,rd1,r1⟩:=listOf_rv rel e1 rx
          obtain ⟨b,ws,rfl,rd2,r2⟩:=listOf_rv rel e2 ry
          have h1:=r1.length
          have h2:=r2.length
          exact .inr ⟨a,b,vs,ws,rfl,rfl,rd1,rd2,by rw [h1,h2]; exact Nat.le_trans c sizeL_le,newL_ok rel (r1.append r2) p⟩
        next=>exact p.elim
theorem ob_all (fz:Bool):∀ op:BO,OpR X (binaryOp (mOp op)) (r2 ct E (binV fz op))
  | .add=>ob_add fz | .sub=>ob_sub fz | .mul=>ob_mul fz | .fdiv=>ob_fdiv fz | .mod=>ob_mod fz | .pow=>ob_pow fz
end
mutual
noncomputable def toP:FV→PyData
  | .non=>.none
  | .bl b=>.bool b
  | .int i=>.int i
  | .str s=>.str s
  | .tup xs=>.tuple (toPs xs)
  | .lst xs=>.list (toPs xs)
  | .obj _ _ _=>.none
  | .scr _=>.none
  | .tab _=>.none
  | .msk _=>.none
noncomputable def toPs:List FV→List PyData
  | []=>[]
  | x::xs=>toP x::toPs xs
end
theorem toPs_map:∀ xs:List FV,toPs xs=xs.map toP
  | []=>by simp [toPs]
  | x::xs=>by simp [toPs,toPs_map xs]
section
variable {ct:Tx} {X:Cx} {E:XK}
theorem lay_all {n:Nat}:∀ xs:List FV,(∀ x∈xs,(toP x).canLay0=true∧(toP x).depth≤n)→PyData.canLayAll0 (toPs xs)=true∧PyData.depthAll (toPs xs)≤n
  | [],_=>by simp [toPs,PyData.canLayAll0,PyData.depthAll]
  | x::xs,f=>by
    have h1:=f x (by simp)
    have h2:=lay_all xs fun y hy=>f y (by simp [hy])
    simp only [toPs,PyData.canLayAll0,PyData.depthAll,h1.1,h2.1,Bool.and_self,true_and]
    have a1:=h1.2
    have a2:=h2.2
    lia
theorem lay_of:∀ (n:Nat) (x:FV),isD n x=true→(toP x).canLay0=true∧(toP x).depth≤n
  | 0,x,e=>by cases x <;> simp [isD] at e
  | n + 1,.non,_=>by simp [toP,PyData.canLay0,PyData.depth]
  | n + 1,.bl _,_=>by simp [toP,PyData.canLay0,PyData.depth]
  | n + 1,.int _,_=>by simp [toP,PyData.canLay0,PyData.depth]
  | n + 1,.str s,e=>by
    have e':PyData.strOk s=true:=e
    simp [toP,PyData.canLay0,PyData.depth,e']
  | n + 1,.tup xs,e=>by
    have q:=lay_all (n:=n) xs fun x hx=>lay_of n x (by simp [isD] at e; exact e x hx)
    have q2:=q.2
    simp only [toP,PyData.canLay0,PyData.depth,q.1,true_and]
    lia
  | n + 1,.lst xs,e=>by
    have q:=lay_all (n:=n) xs fun x hx=>lay_of n x (by simp [isD] at e; exact e x hx)
    have q2:=q.2
    simp only [toP,PyData.canLay0,PyData.depth,q.1,true_and]
    lia
  | n + 1,.obj _ _ _,e=>by simp [isD] at e
  | n + 1,.scr _,e=>by simp [isD] at e
  | n + 1,.tab _,e=>by simp [isD] at e
  | n + 1,.msk _,e=>by simp [isD] at e
theorem shaped_of {x:FV} (e:isD 8 x=true):SeqAt.shaped (toP x)=true:=by
  have:=lay_of 8 x e
  unfold SeqAt.shaped
  rw [this.1,Bool.true_and]
  exact decide_eq_true (by have:=this.2; lia)
mutual
theorem eqv_of:∀ (n:Nat) (x y:FV),isD n x=true→isD n y=true→PyData.eqv (toP x) (toP y)=eqD x y
  | 0,x,_,e,_=>by cases x <;> simp [isD] at e
  | n + 1,.tup xs,.tup ys,e,e'=>by
    simp only [toP,PyData.eqv,eqD]
    exact eqvs_of n xs ys (by simpa [isD] using e) (by simpa [isD] using e')
  | n + 1,.lst xs,.lst ys,e,e'=>by
    simp only [toP,PyData.eqv,eqD]
    exact eqvs_of n xs ys (by simpa [isD] using e) (by simpa [isD] using e')
  | n + 1,.non,y,e,e'=>by cases y <;> simp_all [isD,toP,PyData.eqv,eqD]
  | n + 1,.bl _,y,e,e'=>by cases y <;> simp_all [isD,toP,PyData.eqv,eqD]
  | n + 1,.int _,y,e,e'=>by cases y <;> simp_all [isD,toP,PyData.eqv,eqD]
  | n + 1,.str _,y,e,e'=>by cases y <;> simp_all [isD,toP,PyData.eqv,eqD]
  | n + 1,.tup _,.non,e,e'=>by simp [toP,PyData.eqv,eqD]
  | n + 1,.tup _,.bl _,e,e'=>by simp [toP,PyData.eqv,eqD]
  | n + 1,.tup _,.int _,e,e'=>by simp [toP,PyData.eqv,eqD]
  | n + 1,.tup _,.str _,e,e'=>by simp [toP,PyData.eqv,eqD]
  | n + 1,.tup _,.lst _,e,e'=>by simp [toP,PyData.eqv,eqD]
  | n + 1,.tup _,.obj _ _ _,e,e'=>by simp [isD] at e'
  | n + 1,.tup _,.scr _,e,e'=>by simp [isD] at e'
  | n + 1,.tup _,.tab _,e,e'=>by simp [isD] at e'
  | n + 1,.tup _,.msk _,e,e'=>by simp [isD] at e'
  | n + 1,.lst _,.non,e,e'=>by simp [toP,PyData.eqv,eqD]
  | n + 1,.lst _,.bl _,e,e'=>by simp [toP,PyData.eqv,eqD]
  | n + 1,.lst _,.int _,e,e'=>by simp [toP,PyData.eqv,eqD]
  | n + 1,.lst _,.str _,e,e'=>by simp [toP,PyData.eqv,eqD]
  | n + 1,.lst _,.tup _,e,e'=>by simp [toP,PyData.eqv,eqD]
  | n + 1,.lst _,.obj _ _ _,e,e'=>by simp [isD] at e'
  | n + 1,.lst _,.scr _,e,e'=>by simp [isD] at e'
  | n + 1,.lst _,.tab _,e,e'=>by simp [isD] at e'
  | n + 1,.lst _,.msk _,e,e'=>by simp [isD] at e'
  | n + 1,.obj _ _ _,_,e,_=>by simp [isD] at e
  | n + 1,.scr _,_,e,_=>by simp [isD] at e
  | n + 1,.tab _,_,e,_=>by simp [isD] at e
  | n + 1,.msk _,_,e,_=>by simp [isD] at e
theorem eqvs_of:∀ (n:Nat) (xs ys:List FV),(∀ x∈xs,isD n x=true)→(∀ y∈ys,isD n y=true)→PyData.eqvAll (toPs xs) (toPs ys)=eqDs xs ys
  | n,[],[],_,_=>by simp [toPs,PyData.eqvAll,eqDs]
  | n,[],_::_,_,_=>by simp [toPs,PyData.eqvAll,eqDs]
  | n,_::_,[],_,_=>by simp [toPs,PyData.eqvAll,eqDs]
  | n,x::xs,y::ys,e,e'=>by
    simp only [toPs,PyData.eqvAll,eqDs]
    rw [eqv_of n x y (e x (by simp)) (e' y (by simp)),eqvs_of n xs ys (fun z hz=>e z (by simp [hz])) (fun z hz=>e' z (by simp [hz]))]
end
mutual
theorem reads_of {P:Program} {w:World} {L:Addr→Prop} {H:Hp} {hp:Heap} (hok:HOk P w H hp):∀ (n:Nat) (x:FV) (v:V) (u:Value),isD n x=true→RF ct L H x v→RelV v u→∃ as,Reads hp u (toP x) as
  | 0,x,_,_,e,_,_=>by cases x <;> simp [isD] at e
  | n + 1,.non,v,u,_,r,q=>by simp only [RF] at r; subst r; cases q; exact ⟨_,.none⟩
  | n + 1,.bl _,v,u,_,r,q=>by simp only [RF] at r; subst r; cases q; exact ⟨_,.bool _⟩
  | n + 1,.int _,v,u,_,r,q=>by simp only [RF] at r; subst r; obtain ⟨t,rfl⟩:=q; exact ⟨_,.int _ _⟩
  | n + 1,.str _,v,u,_,r,q=>by simp only [RF] at r; subst r; obtain ⟨t,rfl⟩:=q; exact ⟨_,.str _ _⟩
  | n + 1,.tup xs,v,u,e,r,q=>by
    simp only [RF] at r
    obtain ⟨a,vs,rfl,_,rd,rs⟩:=r
    cases q
    obtain ⟨z,its,rv,o,e1,e2,k,e3⟩:=(Rd.of rd).ok hok
    obtain ⟨as,ra⟩:=readsAll_of hok n xs vs its (by simpa [isD] using e) rs rv
    exact ⟨as,reads_tuple_at e1 e2 e3 ra⟩
  | n + 1,.lst xs,v,u,e,r,q=>by
    simp only [RF] at r
    obtain ⟨a,vs,rfl,_,rd,rs⟩:=r
    cases q
    obtain ⟨z,its,k,rv,e1⟩:=rd.ok hok
    obtain ⟨as,ra⟩:=readsAll_of hok n xs vs its (by simpa [isD] using e) rs rv
    exact ⟨_,reads_list_at e1 rfl rfl ra⟩
  | n + 1,.obj _ _ _,_,_,e,_,_=>by simp [isD] at e
  | n + 1,.scr _,_,_,e,_,_=>by simp [isD] at e
  | n + 1,.tab _,_,_,e,_,_=>by simp [isD] at e
  | n + 1,.msk _,_,_,e,_,_=>by simp [isD] at e
theorem readsAll_of {P:Program} {w:World} {L:Addr→Prop} {H:Hp} {hp:Heap} (hok:HOk P w H hp):∀ (n:Nat) (xs:List FV) (vs:List V) (us:List Value),(∀ x∈xs,isD n x=true)→RFs ct L H xs vs→Vals vs us→∃ as,ReadsAll hp us (toPs xs) as
  | n,[],vs,us,_,r,q=>by simp only [RFs] at r; subst r; cases q; exact ⟨[],by simpa only [toPs] using ReadsAll.nil⟩
  | n,x::xs,vs,us,e,r,q=>by
    simp only [RFs] at r
    obtain ⟨v,t,rfl,r1,r2⟩:=r
    cases q with
    | cons q1 q2 =>
      obtain ⟨as,h1⟩:=reads_of hok n x v _ (e x (by simp)) r1 q1
      obtain ⟨bs,h2⟩:=readsAll_of hok n xs t _ (fun z hz=>e z (by simp [hz])) r2 q2
      exact ⟨as++bs,by simp only [toPs]; exact .cons h1 h2⟩
end
noncomputable abbrev noL:Addr→Prop:=fun _=>False
section
variable {μ:List Addr} {h:MH} {H:Hp}
theorem mapM_read {g:MV→Option FV}:∀ {xs:List MV} {ys:List FV} {vs:List V},xs.mapM g=some ys→RVs ct μ (Liv μ h) H xs vs →
    (∀ x∈xs,∀ y v,g x=some y→RV ct μ (Liv μ h) H x v→RF ct noL H y v)→RFs ct noL H ys vs
  | [],ys,vs,e,r,_=>by
    simp at e; subst e; simp only [RVs] at r; subst r; simp only [RFs]
  | x::xs,ys,vs,e,r,f=>by
    simp only [List.mapM_cons,Option.bind_eq_bind,Option.bind_eq_some_iff,Option.pure_def,Option.some.injEq] at e
    obtain ⟨y,e1,zs,e2,rfl⟩:=e
    simp only [RVs] at r
    obtain ⟨v,t,rfl,r1,r2⟩:=r
    simp only [RFs]
    exact ⟨v,t,rfl,f x (by simp) y v e1 r1,mapM_read e2 r2 fun z hz=>f z (by simp [hz])⟩
theorem deep_read (rel:Rel ct μ h H):∀ (n:Nat) (m:MV) (x:FV) (v:V),deepN h n m=some x→RV ct μ (Liv μ h) H m v→RF ct noL H x v
  | 0,m,x,v,e,_=>by simp [deepN] at e
  | n + 1,.f y,x,v,e,r=>by
    simp [deepN] at e; subst e
    simp only [RV] at r
    exact RF.to ⟨fun _ _ e _=>e,fun _ _ _ _ z=>z⟩ r
  | n + 1,.tup xs,x,v,e,r=>by
    simp only [deepN,Option.map_eq_some_iff] at e
    obtain ⟨ys,e1,rfl⟩:=e
    simp only [RV] at r
    obtain ⟨a,vs,rfl,na,rd,q⟩:=r
    simp only [RF]
    exact ⟨a,vs,rfl,fun z=>z,rd,mapM_read e1 q fun z hz y u ez ru=>deep_read rel n z y u ez ru⟩
  | n + 1,.ref i,x,v,e,r=>by
    simp only [deepN,Option.bind_eq_some_iff,Option.map_eq_some_iff] at e
    obtain ⟨xs,e0,ys,e1,rfl⟩:=e
    simp only [RV] at r
    obtain ⟨b,eb,rfl⟩:=r
    obtain ⟨b',vs,eb',hb,q⟩:=rel.lst e0
    rw [eb] at eb'; cases eb'
    simp only [RF]
    exact ⟨b,vs,rfl,fun z=>z,.inl hb,mapM_read e1 q fun z hz y u ez ru=>deep_read rel n z y u ez ru⟩
  | n + 1,.exc _,x,v,e,_=>by simp [deepN] at e
end
noncomputable def mCmp:CO→CmpOp
  | .lt=>.Lt | .le=>.LtE | .gt=>.Gt | .ge=>.GtE | .eq=>.Eq | .ne=>.NotEq | .inn=>.In | .nin=>.NotIn
noncomputable def rcmp (ct:Tx) (op:CO):R2:=fun x y H Q=>∃ μ h mx my b,Rel ct μ h H∧RV ct μ (Liv μ h) H mx x∧RV ct μ (Liv μ h) H my y∧cmpV op mx my h=some b∧Q (.bl b) H
theorem cmp_ints {op:CO} {x y:V} {H:Hp} {Q:VK} (ho:∀ mx my h,cmpV op mx my h=(intOf mx).bind fun i=>(intOf my).bind fun j=>intCmp op i j) (q:rcmp ct op x y H Q):∃ i j b,x=.int i∧y=.int j∧intCmp op i j=some b∧Q (.bl b) H:=by
  obtain ⟨μ,h,mx,my,b,rel,rx,ry,e,q⟩:=q
  rw [ho] at e
  simp only [Option.bind_eq_some_iff] at e
  obtain ⟨i,e1,j,e2,e3⟩:=e
  have:=intOf_eq e1; subst this
  have:=intOf_eq e2; subst this
  exact ⟨i,j,b,rv_int rx,rv_int ry,e3,q⟩
theorem oc_lt:OpR X (compareOp .Lt) (rcmp ct .lt):=OpR.imp op_lt fun x y H Q q=>by
  obtain ⟨i,j,b,e1,e2,e3,q⟩:=cmp_ints (fun _ _ _=>rfl) q
  cases e3; exact ⟨i,j,e1,e2,q⟩
theorem oc_le:OpR X (compareOp .LtE) (rcmp ct .le):=OpR.imp op_le fun x y H Q q=>by
  obtain ⟨i,j,b,e1,e2,e3,q⟩:=cmp_ints (fun _ _ _=>rfl) q
  cases e3; exact ⟨i,j,e1,e2,q⟩
theorem oc_gt:OpR X (compareOp .Gt) (rcmp ct .gt):=OpR.imp op_gt fun x y H Q q=>by
  obtain ⟨i,j,b,e1,e2,e3,q⟩:=cmp_ints (fun _ _ _=>rfl) q
  cases e3; exact ⟨i,j,e1,e2,q⟩
theorem oc_ge:OpR X (compareOp .GtE) (rcmp ct .ge):=OpR.imp op_ge fun x y H Q q=>by
  obtain ⟨i,j,b,e1,e2,e3,q⟩:=cmp_ints (fun _ _ _=>rfl) q
  cases e3; exact ⟨i,j,e1,e2,q⟩
theorem eqF_some {x y:FV} {b:Bool} (e:eqF x y=some b):isD 8 x=true∧isD 8 y=true∧eqD x y=b:=by
  unfold eqF at e
  split at e
  next c=>cases e; exact ⟨c.1,c.2,rfl⟩
  next=>cases e
theorem oc_eq (hu:X.A.units + 65 < cLine):OpR X (compareOp .Eq) (rcmp ct .eq):=by
  intro pins s σ H x y v u Q I rx ry q
  obtain ⟨μ,h,mx,my,b,rel,r1,r2,e,q⟩:=q
  simp only [cmpV,Option.bind_eq_some_iff] at e
  obtain ⟨a,e1,c,e2,e3⟩:=e
  obtain ⟨d1,d2,e4⟩:=eqF_some e3
  obtain ⟨as,ra⟩:=reads_of I.hok 8 a x v d1 (deep_read rel 5 mx a x e1 r1) rx
  obtain ⟨bs,rb⟩:=reads_of I.hok 8 c y u d2 (deep_read rel 5 my c y e2 r2) ry
  refine eq_dataH ra rb (shaped_of d1) (shaped_of d2) (by lia) ?_
  rw [eqv_of 8 a c d1 d2,e4]
  exact ⟨.bl b,H,I,rfl,q⟩
theorem oc_ne (hu:X.A.units + 65 < cLine):OpR X (compareOp .NotEq) (rcmp ct .ne):=by
  intro pins s σ H x y v u Q I rx ry q
  obtain ⟨μ,h,mx,my,b,rel,r1,r2,e,q⟩:=q
  simp only [cmpV,Option.bind_eq_some_iff,Option.map_eq_some_iff] at e
  obtain ⟨a,e1,c,e2,b',e3,rfl⟩:=e
  obtain ⟨d1,d2,e4⟩:=eqF_some e3
  obtain ⟨as,ra⟩:=reads_of I.hok 8 a x v d1 (deep_read rel 5 mx a x e1 r1) rx
  obtain ⟨bs,rb⟩:=reads_of I.hok 8 c y u d2 (deep_read rel 5 my c y e2 r2) ry
  refine ne_dataH ra rb (shaped_of d1) (shaped_of d2) (by lia) ?_
  rw [eqv_of 8 a c d1 d2,e4]
  exact ⟨.bl _,H,I,rfl,q⟩
end
end SD
end
section
namespace HT
open PySem PyProof.Rows
section
variable {prog:Program} {w:World} {A:Around} {E:Value→Shared→Prop} {s:Shared}
theorem getItem_tuple_whole {t sl:Addr} {items:Array Value} {vl vu:Value} {lo hi:Option Int} {Q:Value→Shared→Prop} (ht:IsTup s.heap t items) (hs:s.heap.IsSliceOf sl vl vu .none) (pl:IsPart vl lo) (pu:IsPart vu hi)
    (hw:sIx items.size 0 lo=0∧sIx items.size items.size hi=items.size) (h:Q (.ref t) s):wpAny (model prog w) A (getItem (.ref t) (.ref sl)) Q E s:=by
  obtain ⟨os,hos,hcs,hds⟩:=id hs
  have hTs:s.TypeIs (.ref sl) "slice":=⟨os,hos,hcs⟩
  unfold getItem
  try with_reducible refine wpAny_holding ?_
  first | refine wpAny_bind (wpAny_pure ?_) | skip
  refine wpAny_bind (wpAny_sequenceKey ht.typeIs (by decide) ?_)
  refine wpAny_bind (wpAny_callSpecial?_slot (name:=Str.ofString "__getitem__") ht.typeIs PyProof.Rows.slot_tuple_getitem
    (wpAny_call_entry PyProof.Rows.slot_tuple_getitem ht.typeIs entry_tuple_getitem ?_ (args_tuple_getitem _ _)))
  show wpAny _ _ (Builtin.Tuple.tupleItemsOf (.ref t) >>= _) _ _ s
  refine wpAny_bind (tupleItemsOf_ ht ?_)
  refine wpAny_bind (wpAny_typeOf hTs ?_)
  rw [if_pos (by decide)]
  refine wpAny_bind (sliceApplied_gen hs pl pu ?_)
  have hyes:(((sIx items.size 0 lo:Nat):Int) == 0&&(1:Int) == 1&&(sIx items.size items.size hi - sIx items.size 0 lo) == items.size)=true:=by
    rw [hw.1,hw.2]; simp
  show wpAny _ _ (if (((sIx items.size 0 lo:Nat):Int) == 0&&(1:Int) == 1&&(sIx items.size items.size hi - sIx items.size 0 lo) == items.size)=true then _ else _) _ _ s
  rw [if_pos hyes]
  unfold Builtin.Tuple.tupleIsExact
  refine wpAny_bind (wpAny_bind (wpAny_typeOf ht.typeIs (wpAny_pure ?_)))
  rw [if_pos (by decide)]
  first
    | exact wpAny_bind (wpAny_rule (wpAny_bind (wpAny_pure (wpAny_pure ⟨_,rfl,wpAny_pure h⟩))))
    | exact wpAny_bind (wpAny_rule (wpAny_pure ⟨_,rfl,wpAny_pure h⟩))
    | exact wpAny_bind (wpAny_rule (wpAny_bind (wpAny_pure ⟨_,rfl,wpAny_pure h⟩)))
end
end HT
namespace SD
open PySem PySem.Spec PyProof.Rows L2 L3 M3 MP
section
variable {ct:Tx} {X:Cx} {E:XK}
theorem inF_some {x:FV} {ys:List FV} {b:Bool} (e:inF x ys=some b):isD 8 x=true∧(∀ y∈ys,isD 8 y=true)∧ys.any (fun y=>eqD y x)=b:=by
  unfold inF at e
  split at e
  next c=>cases e; exact ⟨c.1,by simpa using c.2,rfl⟩
  next=>cases e
theorem any_eqv {x:FV} {ys:List FV} (hx:isD 8 x=true) (hy:∀ y∈ys,isD 8 y=true):(toPs ys).any (fun y=>PyData.eqv y (toP x))=ys.any fun y=>eqD y x:=by
  rw [toPs_map,List.any_map]
  induction ys with
  | nil=>rfl
  | cons y ys ih =>
    simp only [List.any_cons,Function.comp_apply]
    rw [eqv_of 8 y x (hy y (by simp)) hx,ih fun z hz=>hy z (by simp [hz])]
theorem mem_reads {μ:List Addr} {h:MH} {H:Hp} {mx my:MV} {ys:List MV} {a:FV} {bs:List FV} {x y:V} {v u:Value} {b:Bool} {pins:List (Addr×Obj)} {σ:L2.St} {s:Shared} (hK:X.K=ct.K) (I:Inv X pins σ H s) (rel:Rel ct μ h H) (rx:RelV x v) (ry:RelV y u)
    (r1:RV ct μ (Liv μ h) H mx x) (r2:RV ct μ (Liv μ h) H my y) (e1:deep h mx=some a) (e2:seqOf h my=some ys) (e3:ys.mapM (deep h)=some bs) (e4:inF a bs=some b) :
    (∃ as as',(Reads s.heap u (.list (toPs bs)) as∨Reads s.heap u (.tuple (toPs bs)) as)∧Reads s.heap v (toP a) as')∧PyData.canLayAll0 (toPs bs)=true∧(toP a).canLay0=true∧PyData.depthAll (toPs bs)≤8∧(toPs bs).any (fun y=>PyData.eqv y (toP a))=b:=by
  obtain ⟨d1,d2,e5⟩:=inF_some e4
  obtain ⟨as',ra⟩:=reads_of I.hok 8 a x v d1 (deep_read rel 5 mx a x e1 r1) rx
  obtain ⟨k,p,vs,rfl,sq,rs⟩:=seqOf_rv rel e2 r2
  cases ry
  have rf:RFs ct noL H bs vs:=mapM_read e3 rs fun z hz y u ez ru=>deep_read rel 5 z y u ez ru
  have ll:=lay_all (n:=8) bs fun y hy=>lay_of 8 y (d2 y hy)
  refine ⟨?_,ll.1,(lay_of 8 a d1).1,ll.2,by rw [any_eqv d1 d2]; exact e5⟩
  cases k with
  | true =>
    obtain ⟨its,rv,⟨o,q1,q2,n,q3⟩,_⟩:=I.tuple (show SqT X.K H p vs from sq.s hK)
    obtain ⟨as,rb⟩:=readsAll_of I.hok 8 bs vs its d2 rf rv
    exact ⟨as,as',.inr (reads_tuple_at q1 q2 q3 rb),ra⟩
  | false =>
    obtain ⟨its,rv,⟨o,n,q1,q2,_,q3⟩,_⟩:=I.list (show SqL X.K H p vs from sq.s hK)
    obtain ⟨as,rb⟩:=readsAll_of I.hok 8 bs vs its d2 rf rv
    exact ⟨_,as',.inl (reads_list_at q1 q2 q3 rb),ra⟩
theorem oc_in (hK:X.K=ct.K) (hu:X.A.units + 65 < cLine):OpR X (compareOp .In) (rcmp ct .inn):=by
  intro pins s σ H x y v u Q I rx ry q
  obtain ⟨μ,h,mx,my,b,rel,r1,r2,e,q⟩:=q
  simp only [cmpV,Option.bind_eq_some_iff] at e
  obtain ⟨a,e1,ys,e2,bs,e3,e4⟩:=e
  obtain ⟨⟨as,as',rb,ra⟩,l1,l2,l3,e5⟩:=mem_reads hK I rel rx ry r1 r2 e1 e2 e3 e4
  rcases rb with rb | rb
  · exact SeqAt.in_list_reads rb ra l1 l2 (by have:=Nat.min_le_left (PyData.depthAll (toPs bs)) (toP a).depth; lia) (by rw [e5]; exact ⟨.bl b,H,I,rfl,q⟩)
  · exact SeqAt.in_tuple_reads rb ra l1 l2 (by have:=Nat.min_le_left (PyData.depthAll (toPs bs)) (toP a).depth; lia) (by rw [e5]; exact ⟨.bl b,H,I,rfl,q⟩)
theorem oc_nin (hK:X.K=ct.K) (hu:X.A.units + 65 < cLine):OpR X (compareOp .NotIn) (rcmp ct .nin):=by
  intro pins s σ H x y v u Q I rx ry q
  obtain ⟨μ,h,mx,my,b,rel,r1,r2,e,q⟩:=q
  simp only [cmpV,Option.bind_eq_some_iff,Option.map_eq_some_iff] at e
  obtain ⟨a,e1,ys,e2,bs,e3,b',e4,rfl⟩:=e
  obtain ⟨⟨as,as',rb,ra⟩,l1,l2,l3,e5⟩:=mem_reads hK I rel rx ry r1 r2 e1 e2 e3 e4
  rcases rb with rb | rb
  · exact SeqAt.notIn_list_reads rb ra l1 l2 (by have:=Nat.min_le_left (PyData.depthAll (toPs bs)) (toP a).depth; lia) (by rw [e5]; exact ⟨.bl _,H,I,rfl,q⟩)
  · exact SeqAt.notIn_tuple_reads rb ra l1 l2 (by have:=Nat.min_le_left (PyData.depthAll (toPs bs)) (toP a).depth; lia) (by rw [e5]; exact ⟨.bl _,H,I,rfl,q⟩)
theorem oc_all (hK:X.K=ct.K) (hu:X.A.units + 65 < cLine):∀ op:CO,OpR X (compareOp (mCmp op)) (rcmp ct op)
  | .lt=>oc_lt | .le=>oc_le | .gt=>oc_gt | .ge=>oc_ge | .eq=>oc_eq hu | .ne=>oc_ne hu | .inn=>oc_in hK hu | .nin=>oc_nin hK hu
theorem ixM_eq (n:Nat) (i:Int):ixM n i=ixN n i:=rfl
noncomputable def rIxM (ct:Tx):R2:=fun x y H Q=>∃ μ h mx k xs m,Rel ct μ h H∧RV ct μ (Liv μ h) H mx x∧y=.int k∧seqOf h mx=some xs∧atM xs k=some m∧∀ v,RV ct μ (Liv μ h) H m v→Q v H
theorem ixr_all (hK:X.K=ct.K):IxR X (rIxM ct):=by
  intro value slice pins s σ H x y v u Q I rx ry q hs
  obtain (⟨μ,h,mx,k,xs,m,rel,r,rfl,e1,e2,q⟩):=q
  obtain (⟨b,a,vs,rfl,sq,rs⟩):=seqOf_rv rel e1 r
  unfold atM at e2
  rw [Option.bind_eq_some_iff] at e2
  obtain (⟨j,e3,e4⟩):=e2
  obtain (⟨w,ew,rw_⟩):=rs.get e4
  refine k_ix X.K rfl value slice pins s σ H (.ref a) (.int k) v u Q I rx ry ⟨b,a,vs,k,w,rfl,rfl,sq.s hK,?_,q w rw_⟩ hs
  unfold atI
  rw [rs.length,← ixM_eq,e3]
  exact ew
theorem cut_rvs {μ:List Addr} {L:Addr→Prop} {H:Hp} {xs:List MV} {vs:List V} (r:RVs ct μ L H xs vs) (lo hi:Option Int):RVs ct μ L H (cutM xs lo hi) (cutV vs lo hi):=by
  unfold cutM cutV
  rw [r.length]
  exact (r.drop _).take _
noncomputable def rSlM (ct:Tx) (E:XK) (fz:Bool):V→Option Int→Option Int→Hp→VK→Prop:=fun x lo hi H Q=>∃ μ h m,Rel ct μ h H∧RV ct μ (Liv μ h) H m x∧Po ct E (sliceV fz m lo hi h) μ h H (kV ct Q)
set_option tactic.hygienic true in
theorem slr_all (hK:X.K=ct.K) (fz:Bool):SlR X (rSlM ct E fz):=by
  intro pins s σ H x v vl vu lo hi sl Q I rx hs pl pu q
  obtain (⟨μ,h,m,rel,r,p⟩):=q
  unfold sliceV at p
  split at p
  next xs e =>
    obtain (⟨a,vs,rfl,n,rd,rs⟩):=tupOf_rv e r
    by_cases hw:HT.sIx vs.length 0 lo=0∧HT.sIx vs.length vs.length hi=vs.length
    · cases rx
      obtain (⟨its,rv,ht,hz⟩):=I.tuple (show SqT X.K H a vs from .inl (.inl rd))
      have hlen:its.toArray.size=vs.length:=by rw [List.size_toArray]; exact rv.length.symm
      refine ⟨"tuple",_,PyProof.Rows.slot_tuple_getitem.lookup,ht.typeIs,HT.getItem_tuple_whole ht hs pl pu (by rw [hlen]; exact hw) ?_⟩
      have hc:cutM xs lo hi=xs:=by
        have hl:=rs.length
        unfold cutM
        show (xs.drop (HT.sIx xs.length 0 lo)).take (HT.sIx xs.length xs.length hi - HT.sIx xs.length 0 lo)=xs
        rw [← hl,hw.1,hw.2,List.drop_zero,Nat.sub_zero,hl,List.take_length]
      rw [hc] at p
      exact ⟨.ref a,H,I,rfl,p.now rel _ (mkTup_rv n rd rs)⟩
    · exact sl_tup pins s σ H (.ref a) v vl vu lo hi sl Q I rx hs pl pu ⟨a,vs,rfl,.inl (.inl rd),hw,newT_ok rel (cut_rvs rs lo hi) p⟩
  next e =>
    obtain (⟨xs,e1,p⟩):=Po.opt p
    rcases seqOf_split e1 with e2 | e2 | ⟨ns,rfl,rfl⟩
    · rw [e] at e2; cases e2
    · obtain (⟨a,vs,rfl,rd,rs⟩):=listOf_rv rel e2 r
      exact sl_list pins s σ H (.ref a) v vl vu lo hi sl Q I rx hs pl pu ⟨a,vs,rfl,.inl rd,newL_ok rel (cut_rvs rs lo hi) p⟩
    · simp only [RV,RF] at r
      obtain (⟨a,rfl,q⟩):=r
      exact sl_list pins s σ H (.ref a) v vl vu lo hi sl Q I rx hs pl pu ⟨a,_,rfl,by rw [hK]; exact scr_sq q,newL_ok rel (cut_rvs (ints_rv ns) lo hi) p⟩
end
section
variable {ct:Tx} {X:Cx} {E:XK}
theorem CallR.imp {f:Value} {r r':List V→Hp→VK→Prop} (o:CallR X f r) (k:∀ xs H Q,r' xs H Q→r xs H Q):CallR X f r':=fun pins s σ H xs us Q I rv q=>o pins s σ H xs us Q I rv (k _ _ _ q)
theorem CallR.ors {f:Value} {r r':List V→Hp→VK→Prop} (o:CallR X f r) (o':CallR X f r'):CallR X f fun xs H Q=>r xs H Q∨r' xs H Q:=fun pins s σ H xs us Q I rv q=>q.elim (o pins s σ H xs us Q I rv) (o' pins s σ H xs us Q I rv)
noncomputable def rB (ct:Tx) (E:XK) (fz:Bool) (n:String):List V→Hp→VK→Prop:=fun vs H Q=>∃ μ h ms,Rel ct μ h H∧RVs ct μ (Liv μ h) H ms vs∧Po ct E (bltV fz n ms h) μ h H (kV ct Q)
theorem rvs_one {μ:List Addr} {L:Addr→Prop} {H:Hp} {m:MV} {vs:List V} (r:RVs ct μ L H [m] vs):∃ v,vs=[v]∧RV ct μ L H m v:=by
  simp only [RVs] at r
  obtain ⟨v,t,rfl,r1,rfl⟩:=r
  exact ⟨v,rfl,r1⟩
theorem rvs_two {μ:List Addr} {L:Addr→Prop} {H:Hp} {m m':MV} {vs:List V} (r:RVs ct μ L H [m,m'] vs):∃ v v',vs=[v,v']∧RV ct μ L H m v∧RV ct μ L H m' v':=by
  simp only [RVs] at r
  obtain ⟨v,t,rfl,r1,v',t',rfl,r2,rfl⟩:=r
  exact ⟨v,v',rfl,r1,r2⟩
theorem ints_rvs {μ:List Addr} {L:Addr→Prop} {H:Hp}:∀ {xs:List MV} {ns:List Int} {vs:List V},intsOf xs=some ns→RVs ct μ L H xs vs→vs=ns.map V.int
  | [],ns,vs,e,r=>by simp [intsOf] at e; subst e; simp only [RVs] at r; subst r; rfl
  | .f (.int i)::xs,ns,vs,e,r=>by
    simp only [intsOf,Option.map_eq_some_iff] at e
    obtain ⟨ms,e1,rfl⟩:=e
    simp only [RVs] at r
    obtain ⟨v,t,rfl,r1,r2⟩:=r
    rw [rv_int r1,ints_rvs e1 r2]; rfl
  | .f .non::_,_,_,e,_=>by simp [intsOf] at e
  | .f (.bl _)::_,_,_,e,_=>by simp [intsOf] at e
  | .f (.str _)::_,_,_,e,_=>by simp [intsOf] at e
  | .f (.tup _)::_,_,_,e,_=>by simp [intsOf] at e
  | .f (.lst _)::_,_,_,e,_=>by simp [intsOf] at e
  | .f (.obj _ _ _)::_,_,_,e,_=>by simp [intsOf] at e
  | .f (.scr _)::_,_,_,e,_=>by simp [intsOf] at e
  | .f (.tab _)::_,_,_,e,_=>by simp [intsOf] at e
  | .f (.msk _)::_,_,_,e,_=>by simp [intsOf] at e
  | .ref _::_,_,_,e,_=>by simp [intsOf] at e
  | .tup _::_,_,_,e,_=>by simp [intsOf] at e
  | .exc _::_,_,_,e,_=>by simp [intsOf] at e
theorem bls_rvs {μ:List Addr} {L:Addr→Prop} {H:Hp}:∀ {xs:List MV} {ns:List Bool} {vs:List V},blsOf xs=some ns→RVs ct μ L H xs vs→vs=ns.map V.bl
  | [],ns,vs,e,r=>by simp [blsOf] at e; subst e; simp only [RVs] at r; subst r; rfl
  | .f (.bl i)::xs,ns,vs,e,r=>by
    simp only [blsOf,Option.map_eq_some_iff] at e
    obtain ⟨ms,e1,rfl⟩:=e
    simp only [RVs] at r
    obtain ⟨v,t,rfl,r1,r2⟩:=r
    rw [rv_bl r1,bls_rvs e1 r2]; rfl
  | .f .non::_,_,_,e,_=>by simp [blsOf] at e
  | .f (.int _)::_,_,_,e,_=>by simp [blsOf] at e
  | .f (.str _)::_,_,_,e,_=>by simp [blsOf] at e
  | .f (.tup _)::_,_,_,e,_=>by simp [blsOf] at e
  | .f (.lst _)::_,_,_,e,_=>by simp [blsOf] at e
  | .f (.obj _ _ _)::_,_,_,e,_=>by simp [blsOf] at e
  | .f (.scr _)::_,_,_,e,_=>by simp [blsOf] at e
  | .f (.tab _)::_,_,_,e,_=>by simp [blsOf] at e
  | .f (.msk _)::_,_,_,e,_=>by simp [blsOf] at e
  | .ref _::_,_,_,e,_=>by simp [blsOf] at e
  | .tup _::_,_,_,e,_=>by simp [blsOf] at e
  | .exc _::_,_,_,e,_=>by simp [blsOf] at e
theorem SqR.len {H:Hp} {K:PySem.W.Frag} {b:Bool} {a:Addr} {vs:List V} (hK:K=ct.K) (q:SqR ct H b a vs):SqL K H a vs∨SqT K H a vs:=by
  subst hK
  cases b with
  | false=>exact .inl q
  | true=>exact .inr q
theorem cb_len (hK:X.K=ct.K) (fz:Bool):CallR X (.builtin "len") (rB ct E fz "len"):=CallR.imp (k_len X.K) fun vs H Q q=>by
  obtain ⟨μ,h,ms,rel,r0,p⟩:=q
  rcases ms with _ | ⟨m,_ | ⟨m2,ms⟩⟩
  · exact p.elim
  · obtain ⟨v,rfl,rm⟩:=rvs_one r0
    obtain ⟨xs,e,p⟩:=Po.opt p
    obtain ⟨b,a,ws,rfl,sq,rs⟩:=seqOf_rv rel e rm
    exact ⟨a,ws,rfl,sq.len hK,by rw [rs.length]; exact p.now rel _ (rv_mkI _)⟩
  · exact p.elim
theorem cb_all (hK:X.K=ct.K) (fz:Bool) (hc:X.calm=true):CallR X (.builtin "all") (rB ct E fz "all"):=CallR.imp (k_all X.K hc) fun vs H Q q=>by
  obtain ⟨μ,h,ms,rel,r0,p⟩:=q
  rcases ms with _ | ⟨m,_ | ⟨m2,ms⟩⟩
  · exact p.elim
  · obtain ⟨v,rfl,rm⟩:=rvs_one r0
    obtain ⟨ns,e,p⟩:=Po.opt p
    rw [Option.bind_eq_some_iff] at e
    obtain ⟨xs,e1,e2⟩:=e
    obtain ⟨b,a,ws,rfl,sq,rs⟩:=seqOf_rv rel e1 rm
    have:=bls_rvs e2 rs
    subst this
    exact ⟨b,a,ns,rfl,sq.s hK,p.now rel _ (rv_mkB _)⟩
  · exact p.elim
theorem cb_min (hK:X.K=ct.K) (fz:Bool) (hc:X.calm=true):CallR X (.builtin "min") (rB ct E fz "min"):=CallR.imp (CallR.ors (k_min X.K hc) (call_min2 hc)) fun vs H Q q=>by
  obtain ⟨μ,h,ms,rel,r0,p⟩:=q
  rcases ms with _ | ⟨m,_ | ⟨m2,_ | ⟨m3,ms⟩⟩⟩
  · exact p.elim
  · left
    obtain ⟨v,rfl,rm⟩:=rvs_one r0
    obtain ⟨ns,e,p⟩:=Po.opt p
    rw [Option.bind_eq_some_iff] at e
    obtain ⟨xs,e1,e2⟩:=e
    obtain ⟨b,a,ws,rfl,sq,rs⟩:=seqOf_rv rel e1 rm
    have:=ints_rvs e2 rs
    subst this
    cases ns with
    | nil=>exact p.elim
    | cons n ns =>
      refine ⟨b,a,n::ns,rfl,sq.s hK,by simp,fun k hk hl=>?_⟩
      have:k=minI n ns:=by
        have a1:=hl _ (minL_mem (r:=n::ns) (by simp))
        have a2:=minL_le (r:=n::ns) hk
        exact Int.le_antisymm a1 a2
      subst this
      exact p.now rel _ (rv_mkI _)
  · right
    obtain ⟨v,v',rfl,rm,rm'⟩:=rvs_two r0
    obtain ⟨i,e,p⟩:=Po.opt p
    obtain ⟨j,e',p⟩:=Po.opt p
    have:=intOf_eq e; subst this
    have:=intOf_eq e'; subst this
    rw [rv_int rm,rv_int rm']
    exact ⟨i,j,rfl,p.now rel _ (rv_mkI _)⟩
  · exact p.elim
theorem cb_max (hK:X.K=ct.K) (fz:Bool) (hc:X.calm=true):CallR X (.builtin "max") (rB ct E fz "max"):=CallR.imp (CallR.ors (k_max X.K hc) (call_max2 hc)) fun vs H Q q=>by
  obtain ⟨μ,h,ms,rel,r0,p⟩:=q
  rcases ms with _ | ⟨m,_ | ⟨m2,_ | ⟨m3,ms⟩⟩⟩
  · exact p.elim
  · left
    obtain ⟨v,rfl,rm⟩:=rvs_one r0
    obtain ⟨ns,e,p⟩:=Po.opt p
    rw [Option.bind_eq_some_iff] at e
    obtain ⟨xs,e1,e2⟩:=e
    obtain ⟨b,a,ws,rfl,sq,rs⟩:=seqOf_rv rel e1 rm
    have:=ints_rvs e2 rs
    subst this
    cases ns with
    | nil=>exact p.elim
    | cons n ns =>
      refine ⟨b,a,n::ns,rfl,sq.s hK,by simp,fun k hk hl=>?_⟩
      have:k=maxI n ns:=by
        have a1:=hl _ (maxL_mem (r:=n::ns) (by simp))
        have a2:=maxL_ge (r:=n::ns) hk
        exact Int.le_antisymm a2 a1
      subst this
      exact p.now rel _ (rv_mkI _)
  · right
    obtain ⟨v,v',rfl,rm,rm'⟩:=rvs_two r0
    obtain ⟨i,e,p⟩:=Po.opt p
    obtain ⟨j,e',p⟩:=Po.opt p
    have:=intOf_eq e; subst this
    have:=intOf_eq e'; subst this
    rw [rv_int rm,rv_int rm']
    exact ⟨i,j,rfl,p.now rel _ (rv_mkI _)⟩
  · exact p.elim
theorem cb_abs (fz:Bool):CallR X (.builtin "abs") (rB ct E fz "abs"):=CallR.imp call_abs fun vs H Q q=>by
  obtain ⟨μ,h,ms,rel,r0,p⟩:=q
  rcases ms with _ | ⟨m,_ | ⟨m2,ms⟩⟩
  · exact p.elim
  · obtain ⟨v,rfl,rm⟩:=rvs_one r0
    obtain ⟨i,e,p⟩:=Po.opt p
    have:=intOf_eq e; subst this
    rw [rv_int rm]
    exact ⟨i,rfl,p.now rel _ (rv_mkI _)⟩
  · exact p.elim
theorem cb_tuple (hK:X.K=ct.K) (fz:Bool):CallR X (.type "tuple") (rB ct E fz "tuple"):=CallR.imp (k_tuple X.K) fun vs H Q q=>by
  obtain ⟨μ,h,ms,rel,r0,p⟩:=q
  rcases ms with _ | ⟨m,_ | ⟨m2,ms⟩⟩
  · exact p.elim
  · obtain ⟨v,rfl,rm⟩:=rvs_one r0
    obtain ⟨xs,e,p⟩:=Po.opt p
    rcases seqOf_split e with e | e | ⟨ns,rfl,rfl⟩
    · obtain ⟨a,ws,rfl,n,rd,rs⟩:=tupOf_rv e rm
      exact ⟨a,ws,rfl,.inr ⟨.inl (.inl rd),p.now rel _ (mkTup_rv n rd rs)⟩⟩
    · obtain ⟨a,ws,rfl,rd,rs⟩:=listOf_rv rel e rm
      exact ⟨a,ws,rfl,.inl ⟨.inl rd,newT_ok rel rs p⟩⟩
    · simp only [RV,RF] at rm
      obtain ⟨a,rfl,q⟩:=rm
      exact ⟨a,_,rfl,.inl ⟨by rw [hK]; exact scr_sq q,newT_ok rel (ints_rv ns) p⟩⟩
  · exact p.elim
noncomputable def rLm (ct:Tx) (E:XK) (m:String):V→List V→Hp→VK→Prop:=fun x vs H Q=>∃ μ h mo ms,Rel ct μ h H∧RV ct μ (Liv μ h) H mo x∧RVs ct μ (Liv μ h) H ms vs∧Po ct E (lmV m mo ms h) μ h H (kV ct Q)
theorem MtR.imp {id:String} {r r':V→List V→Hp→VK→Prop} (o:MtR X id r) (k:∀ x xs H Q,r' x xs H Q→r x xs H Q):MtR X id r':=fun pins s σ H x xs v us Q I rx rv q=>o pins s σ H x xs v us Q I rx rv (k _ _ _ _ q)
theorem lm_ref {m:String} {mo:MV} {ms:List MV} {μ:List Addr} {h:MH} {H:Hp} {x:V} {k:MV→List Addr→MH→Hp→Prop} (rel:Rel ct μ h H) (r:RV ct μ (Liv μ h) H mo x) (p:Po ct E (lmV m mo ms h) μ h H k) :
    ∃ i b xs vs,mo=.ref i∧x=.ref b∧μ[i]?=some b∧cellL h i=some xs∧H b=some (.lst vs)∧RVs ct μ (Liv μ h) H xs vs:=by
  cases mo with
  | ref i =>
    obtain ⟨xs,e,_⟩:=Po.opt p
    obtain ⟨b,vs,e1,e2,q⟩:=rel.lst e
    simp only [RV] at r
    obtain ⟨b',e3,rfl⟩:=r
    rw [e1] at e3; cases e3
    exact ⟨i,b,xs,vs,rfl,rfl,e1,e,e2,q⟩
  | f _=>exact p.elim
  | tup _=>exact p.elim
  | exc _=>exact p.elim
theorem set_ok {μ:List Addr} {h:MH} {H:Hp} {i:Nat} {b:Addr} {xs ys:List MV} {vs:List V} {m:MV} {v:V} {Q:VK} (rel:Rel ct μ h H) (e1:μ[i]?=some b) (e:cellL h i=some xs) (r:RVs ct μ (Liv μ h) H ys vs) (rv:RV ct μ (Liv μ h) H m v)
    (p:Po ct E (.ok m (setCell h i ys)) μ h H (kV ct Q)):Q v (upd H b (.lst vs)):=by
  have e2:=cellL_some e
  have ex:=Ext.set (H:=H) rel e1 e2 (fun z=>nomatch z) (.lst ys) (.lst vs)
  refine p μ _ ex (rel.set e1 e2 (fun z=>nomatch z) ⟨vs,upd_same,?_⟩) v (rv.ext ex)
  exact RVs.ext ex r
theorem ml_append:MtR X "list.append" (rLm ct E "append"):=MtR.imp mt_append fun x ws H Q q=>by
  obtain ⟨μ,h,mo,ms,rel,r,rs,p⟩:=q
  obtain ⟨i,b,xs,vs,rfl,rfl,e1,e,hb,q⟩:=lm_ref rel r p
  rcases ms with _ | ⟨m,_ | ⟨m2,ms⟩⟩
  · obtain ⟨_,_,p⟩:=Po.opt p; exact p.elim
  · obtain ⟨v,rfl,rm⟩:=rvs_one rs
    obtain ⟨_,e',p⟩:=Po.opt p
    rw [e] at e'; cases e'
    change Po ct E (if xs.length < MP.sizeL then _ else _) μ h H (kV ct Q) at p
    split at p
    next c=>exact ⟨b,vs,v,rfl,rfl,hb,by rw [q.length]; exact Nat.lt_of_lt_of_le c sizeL_le,set_ok rel e1 e (q.append (RVs.cons rm RVs.nil)) rv_mkN p⟩
    next=>exact p.elim
  · obtain ⟨_,_,p⟩:=Po.opt p; exact p.elim
theorem ml_extend:MtR X "list.extend" (rLm ct E "extend"):=MtR.imp mt_extendR fun x ws H Q q=>by
  obtain ⟨μ,h,mo,ms,rel,r,rs,p⟩:=q
  obtain ⟨i,b,xs,vs,rfl,rfl,e1,e,hb,q⟩:=lm_ref rel r p
  rcases ms with _ | ⟨m,_ | ⟨m2,ms⟩⟩
  · obtain ⟨_,_,p⟩:=Po.opt p; exact p.elim
  · obtain ⟨v,rfl,rm⟩:=rvs_one rs
    obtain ⟨_,e',p⟩:=Po.opt p
    rw [e] at e'; cases e'
    change Po ct E (opt (listOf h m) fun ys=>if xs.length + ys.length≤MP.sizeL then .ok (.f .non) (setCell h i (xs++ys)) else .stuck) μ h H (kV ct Q) at p
    obtain ⟨ys,e3,p2⟩:=Po.opt p
    obtain ⟨a,ws,rfl,rd,rs2⟩:=listOf_rv rel e3 rm
    split at p2
    next c=>exact ⟨b,a,vs,ws,rfl,rfl,hb,rd,by rw [q.length,rs2.length]; exact Nat.le_trans c sizeL_le,set_ok rel e1 e (q.append rs2) rv_mkN p2⟩
    next=>exact p2.elim
  · obtain ⟨_,_,p⟩:=Po.opt p; exact p.elim
theorem MtR.ors {id:String} {r r':V→List V→Hp→VK→Prop} (o:MtR X id r) (o':MtR X id r'):MtR X id fun x xs H Q=>r x xs H Q∨r' x xs H Q:=fun pins s σ H x xs v us Q I rx rv q=>q.elim (o pins s σ H x xs v us Q I rx rv) (o' pins s σ H x xs v us Q I rx rv)
theorem seq_ix (n:Nat) (i:Int):seqIndex? i n=ixM n i:=by
  unfold seqIndex? ixM
  by_cases h:i < 0
  · have h':¬ 0≤i:=by lia
    simp only [h,h',if_true,if_false]
    by_cases k:-(n:Int)≤i
    · have k1:0≤i + (n:Int):=by lia
      have k2:i + (n:Int) < n:=by lia
      simp only [k,k1,k2,decide_true,Bool.and_self,if_true]
    · have k1:¬ 0≤i + (n:Int):=by lia
      simp only [k,k1,decide_false,Bool.false_and,Bool.false_eq_true,if_false]
  · have h':0≤i:=by lia
    simp only [h,h',if_true,if_false,decide_true,Bool.true_and,decide_eq_true_eq]
theorem ml_pop:MtR X "list.pop" (rLm ct E "pop"):=MtR.imp (MtR.ors mt_pop mt_popAt) fun x ws H Q q=>by
  obtain ⟨μ,h,mo,ms,rel,r,rs,p⟩:=q
  obtain ⟨i,b,xs,vs,rfl,rfl,e1,e,hb,q⟩:=lm_ref rel r p
  rcases ms with _ | ⟨m,_ | ⟨m2,ms⟩⟩
  · simp only [RVs] at rs; subst rs
    obtain ⟨_,e',p⟩:=Po.opt p
    rw [e] at e'; cases e'
    change Po ct E (opt (xs[xs.length - 1]?) fun y=>.ok y (setCell h i (xs.take (xs.length - 1)))) μ h H (kV ct Q) at p
    obtain ⟨y,e3,p2⟩:=Po.opt p
    obtain ⟨v,ev,rv⟩:=q.get e3
    refine .inl ⟨b,vs,v,rfl,rfl,hb,by rw [q.length]; exact ev,?_⟩
    rw [List.dropLast_eq_take,q.length]
    exact set_ok rel e1 e (q.take _) rv p2
  · obtain ⟨v,rfl,rm⟩:=rvs_one rs
    obtain ⟨_,e',p⟩:=Po.opt p
    rw [e] at e'; cases e'
    change Po ct E (opt (intOf m) fun i'=>opt (ixM xs.length i') fun k=>opt (xs[k]?) fun y=>if -(2 ^ 63)≤i'∧i' < 2 ^ 63 then .ok y (setCell h i (xs.take k++xs.drop (k + 1))) else .stuck) μ h H (kV ct Q) at p
    obtain ⟨j,e3,p2⟩:=Po.opt p
    obtain ⟨k,e4,p3⟩:=Po.opt p2
    obtain ⟨y,e5,p4⟩:=Po.opt p3
    have:=intOf_eq e3; subst this
    rw [rv_int rm]
    obtain ⟨v,ev,rv⟩:=q.get e5
    split at p4
    next c =>
      refine .inr ⟨b,vs,j,k,v,rfl,rfl,hb,c.1,c.2,?_,ev,?_⟩
      · rw [q.length]
        rw [seq_ix]; exact e4
      · rw [List.eraseIdx_eq_take_drop_succ]
        exact set_ok rel e1 e ((q.take _).append (q.drop _)) rv p4
    next=>exact p4.elim
  · obtain ⟨_,_,p⟩:=Po.opt p; exact p.elim
end
noncomputable def plainE:Expr→Bool
  | .Starred ..=>false
  | .Slice ..=>false
  | .Set ..=>false
  | _=>true
noncomputable def notCall0:Expr→Bool
  | .Call (.Name x _) [] [] _=>!(x == ("super":Str))
  | _=>true
noncomputable def relabS (cs sc:Scope):Scope :=
  {cs with names:=cs.names.map fun (n,k)=>if (k == NameKind.free&&sc.kind == .function&&sc.names.lookup n == some .cell) then (n,NameKind.cell) else (n,k)}
noncomputable def gl (sc:Scope) (x:Str):Bool:=sc.names.lookup x == some .globalImplicit&&!(x == ("__debug__":Str))&&decide (x≠("__name__":Str))
noncomputable def visB (sc:Scope) (x:Str):Bool:=(sc.names.lookup x == some .local || sc.names.lookup x == some .cell || sc.names.lookup x == some .free)&&!(x == ("__debug__":Str))&&!(x == ("__classdict__":Str))
noncomputable def stoB (lo:Str→Bool) (sc:Scope) (x:Str):Bool:=sc.names.lookup x == some .local || (lo x&&sc.names.lookup x == some .cell)
noncomputable abbrev yesN:Str→Bool:=fun _=>true
noncomputable abbrev ownC (cs:Scope):Str→Bool:=fun x=>cs.names.lookup x == some .cell
mutual
noncomputable def chkT (lo:Str→Bool) (N:List Str) (sc:Scope):Tg→Expr→Bool
  | .nm i,.Name x _=>N[i]? == some x&&stoB lo sc x
  | .tp ts,.Tuple es _ _=>chkTs lo N sc ts es
  | _,_=>false
noncomputable def chkTs (lo:Str→Bool) (N:List Str) (sc:Scope):List Tg→List Expr→Bool
  | [],[]=>true
  | t::ts,e::es=>chkT lo N sc t e&&chkTs lo N sc ts es
  | _,_=>false
end
mutual
noncomputable def tgN:Tg→Expr→List Str
  | .nm _,.Name x _=>[x]
  | .tp ts,.Tuple es _ _=>tgNs ts es
  | _,_=>[]
noncomputable def tgNs:List Tg→List Expr→List Str
  | t::ts,e::es=>tgN t e++tgNs ts es
  | _,_=>[]
end
noncomputable def isTup:Expr→Bool
  | .Tuple ..=>true
  | _=>false
noncomputable def isTN:Expr→Bool
  | .Name _ _=>true
  | e=>isTup e
noncomputable def fnNames:List String:=["len","all","min","max","abs"]
noncomputable def tyNames:List String:=["tuple"]
noncomputable def lmNames:List String:=["append","extend","pop"]
noncomputable def lm0Names:List String:=[]
noncomputable def isTys:List String:=["dict","list","tuple","str","int","bool"]
noncomputable def srcArgs:Expr→List Expr
  | .Call (.Name _ _) as [] _=>as
  | _=>[]
noncomputable def chkIt (tg:Expr) (it:String):Expr→Bool
  | .Call (.Name x _) as [] _=>(it == "range"&&(as.length == 1 || as.length == 2 || as.length == 3) || it == "zip"&&isTN tg&&as.length == 2 || it == "enumerate"&&isTup tg&&as.length == 1)&&x == Str.ofString it
  | _=>false
noncomputable def okT:ME→Bool
  | .frz _=>false
  | .ite _ _ _=>false
  | _=>true
noncomputable def isTru:Expr→Bool
  | .Constant (.bool true) _ _=>true
  | _=>false
noncomputable def twoL {α:Type}:List α→Option (α×α)
  | [a,b]=>some (a,b)
  | _=>none
noncomputable def oneL {α:Type}:List α→Option α
  | [a]=>some a
  | _=>none
noncomputable def asC1:Expr→Option (Str×Expr)
  | .Call (.Name x _) as [] _=>(oneL as).map fun a=>(x,a)
  | _=>none
noncomputable def srtForm (e:Expr):Option (Str×Str×Expr):=(asC1 e).bind fun p=>(asC1 p.2).map fun q=>(p.1,q.1,q.2)
noncomputable def isM1:Expr→Bool
  | .UnaryOp .USub (.Constant (.int 1) _ _) _=>true
  | _=>false
noncomputable def asC2:Expr→Option (Str×Expr×Expr)
  | .Call (.Name x _) as [] _=>(twoL as).map fun a=>(x,a)
  | _=>none
noncomputable def asCmp:Expr→Option (Expr×CmpOp×Expr)
  | .Compare l os rs _=>(oneL os).bind fun o=>(oneL rs).map fun r=>(l,o,r)
  | _=>none
noncomputable def isNo:Expr→Bool
  | .Constant .none _ _=>true
  | _=>false
noncomputable def asNm:Expr→Option Str
  | .Name x _=>some x
  | _=>none
noncomputable def isForm (e:Expr):Option (Str×Expr×Str):=(asC2 e).bind fun q=>(asNm q.2.2).map fun y=>(q.1,q.2.1,y)
noncomputable def rvForm:Expr→Option Expr
  | .Subscript x (.Slice none none (some st) _) _=>if isM1 st then some x else none
  | _=>none
noncomputable def itemsForm:Expr→Option Expr
  | .Call (.Attribute l n ap) [] [] cp=>if n == ("items":Str)&&notCall0 l&&(ap.endLine == cp.line) then some l else none
  | _=>none
noncomputable def t1N:T1→Str
  | .str=>"str"
  | .int=>"int"
  | .len=>"len"
  | .setl=>"len"
  | .srtT=>"sorted"
noncomputable def t1S:T1→Bool
  | .setl=>false
  | _=>true
section
variable (Pm:Prog)
mutual
noncomputable def chkR (me:ME) (N:List Str) (sc:Scope) (e:Expr):Bool:=match me,e with
  | .var i,.Name x _=>N[i]? == some x&&visB sc x
  | .cI i,.Constant (.int j) _ _=>i == j
  | .cB b,.Constant (.bool c) _ _=>b == c
  | .cN,.Constant .none _ _=>true
  | .cS s,.Constant (.str x) _ _=>s == x
  | .bin _ op a b,.BinOp l o r _=>o == mOp op&&(plainE l&&chkR a N sc l)&&(plainE r&&chkR b N sc r)
  | .neg a,.UnaryOp .USub x _=>(plainE x&&chkR a N sc x)
  | .cmp op a b,e=>match asCmp e with
    | some (l,o,r)=>o == mCmp op&&(plainE l&&chkR a N sc l)&&(plainE r&&chkR b N sc r)
    | none=>false
  | .isN a,e=>match asCmp e with
    | some (l,o,r)=>o == .Is&&isNo r&&(plainE l&&chkR a N sc l)
    | none=>false
  | .notN a,e=>match asCmp e with
    | some (l,o,r)=>o == .IsNot&&isNo r&&(plainE l&&chkR a N sc l)
    | none=>false
  | .and es,.BoolOp .And vs _=>es.all okT&&chkEs es N sc vs
  | .or es,.BoolOp .Or vs _=>es.all okT&&chkEs es N sc vs
  | .not a,.UnaryOp .Not x _=>okT a&&(plainE x&&chkR a N sc x)
  | .ite c a b,.IfExp t x y _=>okT c&&(plainE t&&chkR c N sc t)&&(plainE x&&chkR a N sc x)&&(plainE y&&chkR b N sc y)
  | .tup es,.Tuple vs _ _=>decide (vs.length < 1000)&&chkEs es N sc vs
  | .lst _ es,.List vs _=>decide (vs.length < 1000)&&chkEs es N sc vs
  | .sub a i,.Subscript x y _=>(plainE x&&chkR a N sc x)&&(plainE y&&chkR i N sc y)
  | .slice _ a lo hi,.Subscript x (.Slice l u none _) _=>(plainE x&&chkR a N sc x)&&chkO lo N sc l&&chkO hi N sc u
  | .fld a n,.Attribute x m _=>m == Str.ofString n&&notCall0 x&&(plainE x&&chkR a N sc x)
  | .call f es,.Call (.Name x _) (v::vs) [] _=>x == Str.ofString f&&gl sc x&&!(f.toList.contains '.')&&(Pm.defs f).isSome&&chkEs es N sc (v::vs)
  | .make _ c es,.Call (.Name x _) (v::vs) [] _=>x == Str.ofString c&&gl sc x&&(Pm.meths c "__init__").isSome&&chkEs es N sc (v::vs)
  | .make _ c [],.Call (.Name x _) [] [] _=>x == Str.ofString c&&gl sc x&&Pm.mk0 c&&(Pm.meths c "__init__").isNone
  | .blt _ n es,.Call (.Name x _) (v::vs) [] _=>x == Str.ofString n&&gl sc x&&(fnNames.contains n || tyNames.contains n)&&chkEs es N sc (v::vs)
  | .isI a t,e=>match isForm e with
    | some (x,v,y)=>x == ("isinstance":Str)&&gl sc x&&y == Str.ofString t&&gl sc y&&(isTys.contains t || (Pm.subs t t).isSome)&&(plainE v&&chkR a N sc v)
    | none=>false
  | .tx1 .setl a,e=>match srtForm e with
    | some (x,y,v)=>x == ("len":Str)&&gl sc x&&y == ("set":Str)&&gl sc y&&(plainE v&&chkR a N sc v)
    | none=>false
  | .tx1 o a,.Call (.Name x _) [v] [] _=>x == t1N o&&gl sc x&&(plainE v&&chkR a N sc v)
  | .tx2 .idx a b,.Call (.Attribute x n ap) [v] [] cp=>n == ("index":Str)&&notCall0 x&&(ap.endLine == cp.line)&&(plainE x&&chkR a N sc x)&&(plainE v&&chkR b N sc v)
  | .lm m o es,.Call (.Attribute x n ap) vs [] cp=>n == Str.ofString m&&notCall0 x&&(ap.endLine == cp.line)&&(plainE x&&chkR o N sc x)&&chkEs es N sc vs&&(if vs.isEmpty then lm0Names.contains m else lmNames.contains m&&decide (vs.length < 30))
  | .comp _ elt tg it src cond ncv js,.ListComp x [⟨t,iter,ifs,a⟩] cs _ =>
      let N':=tgN tg t++js.filterMap fun j=>N[j]?
      (a == 0)&&plainE iter&&compOkB sc N cs N' ncv js&&decide N'.Nodup&&chkT (ownC cs) N' (relabS cs sc) tg t&&(plainE x&&chkR elt N' (relabS cs sc) x)&&chkC cond N' (relabS cs sc) ifs &&
        (if it == "seq" then chkS src N sc iter else if it == "signs" then false else if it == "enum1" then false else chkIt t it iter&&gl sc (Str.ofString it)&&chkEs src N sc (srcArgs iter))
  | .frz m,e=>(plainE e&&chkR m N sc e)
  | _,_=>false
noncomputable def chkEs (mes:List ME) (N:List Str) (sc:Scope) (es:List Expr):Bool:=match mes,es with
  | [],[]=>true
  | m::ms,e::es=>(plainE e&&chkR m N sc e)&&chkEs ms N sc es
  | _,_=>false
noncomputable def chkS (mes:List ME) (N:List Str) (sc:Scope) (e:Expr):Bool:=match mes with
  | [m]=>(plainE e&&chkR m N sc e)
  | _=>false
noncomputable def chkO (mo:Option ME) (N:List Str) (sc:Scope) (eo:Option Expr):Bool:=match mo,eo with
  | none,none=>true
  | some m,some e=>(plainE e&&chkR m N sc e)
  | _,_=>false
noncomputable def chkC (mo:Option ME) (N:List Str) (sc:Scope) (es:List Expr):Bool:=match mo,es with
  | none,[]=>true
  | some m,[e]=>okT m&&(plainE e&&chkR m N sc e)
  | _,_=>false
end
noncomputable def chkE (me:ME) (N:List Str) (sc:Scope) (e:Expr):Bool:=plainE e&&chkR Pm me N sc e
end
noncomputable def spR (ct:Tx) (W:List MV→MH→R MV):Sp:=fun vs H Q E=>∃ μ h ms,Rel ct μ h H∧RVs ct μ (Liv μ h) H ms vs∧Po ct E (W ms h) μ h H (kV ct Q)
structure ClsOk (K:PySem.W.Frag) (C:Addr):Prop where
  cl:Cls K C
  ha:PySem.W.findIn K (.ref C) "__class__"=some (some (.builtin "object.__class__"))
  hn:PySem.W.specialIn K (.builtin "object.__class__") "__get__"=some (some (.builtin "getset_descriptor.__get__"))
  tk:PySem.W.takesIn K (.builtin "object.__class__")=some true
  hm:PySem.W.mroIn K C (.type "object")=some true
noncomputable def spW (ct:Tx) (Pm:Prog) (wd:String):Addr→Addr→Sp:=fun x C vs H Q _=>vs=[.ref x]∧∃ c s,C=ct c∧Pm.word wd c=some s∧∀ H',Same H H'→Q (.str s) H'
noncomputable def GlobOk (mg:Str→Option Value) (x:String):FV→Prop
  | .int i=>∃ t,mg (Str.ofString x)=some (.int i t)
  | .str s=>∃ t,mg (Str.ofString x)=some (.str s t)
  | _=>False
structure Txt (P:Program) (w:World) (K:PySem.W.Frag) (mg:Str→Option Value) (base:Heap) (Pm:Prog) (ct:Tx) (n:Nat):Prop where
  defs:∀ f d,Pm.defs f=some d→f.toList.contains '.'=false→∃ ps,DefOk P w K mg base (Str.ofString f) (2 * n) ps (spR ct (run Pm n f))
  inits:∀ c f,Pm.meths c "__init__"=some f→∃ ps,MakeOk P w K mg base (Str.ofString c) (ct c) (2 * n) ps (spR ct (run Pm n f))
  blts:∀ x∈fnNames++tyNames++isTys++["range","zip","enumerate","isinstance","sorted","reversed","set"],mg (Str.ofString x)=none
  fok:∀ c f,Pm.fok c f=true→Cls K (ct c)∧NoAttr K (ct c) (Str.ofString f)
  cls:∀ c t b,Pm.subs c t=some b→ClsOk K (ct c)
  subC:∀ c t b,Pm.subs c t=some b→isTys.contains t=false→mg (Str.ofString t)=some (.ref (ct t))∧PySem.W.kitOne K (.ref (ct c)) (.ref (ct t))=some b
  subT:∀ c t b,Pm.subs c t=some b→isTys.contains t=true→PySem.W.kitOne K (.ref (ct c)) (.type t)=some b
  tyC:∀ t c b,Pm.subs c t=some b→isTys.contains t=false→∀ T∈["NoneType","bool","int","str","list","tuple"],PySem.W.kitOne K (.type T) (.ref (ct t))=some false
  excs:∀ c,Pm.excs c=true→ExcC K (ct c)∧mg (Str.ofString c)=some (.ref (ct c))
  words:∀ wd,Pm.words wd=true→ExcC K (ct "DotError")∧mg "DotError"=some (.ref (ct "DotError"))∧(∃ ps,DefOkH P w K mg base (Str.ofString wd) 1 ps (spW ct Pm wd)) ∧
    ∀ c s,Pm.word wd c=some s→ExcC K (ct c)∧(mroTl K (ct c)).contains (.ref (ct "DotError"))=true
  xcls:∀ t,Pm.xcls t=true→(if t="ValueError" then mg "ValueError"=none else mg (Str.ofString t)=some (.ref (ct t)))
  xs:∀ c t b,Pm.xsubs c t=some b→ExcK K (ct c)∧PySem.W.kitOne K (.ref (ct c)) (if t="ValueError" then .type "ValueError" else .ref (ct t))=some b
  dfl:∀ f ds,Pm.dfl f ds=true→∃ ps fa fd dvals,FnOk P w K mg base (CX1 P w) (2 * n) fa fd ps (spR ct (run Pm n f))∧Binds K fd ps dvals∧Vals (ds.map V.int) dvals∧PySem.W.keepIn K (.ref fa)=true∧mg (Str.ofString f)=some (.ref fa)
  xdot:Pm.xt=true→ExcC K (ct "DotError")∧mg "DotError"=some (.ref (ct "DotError"))∧∀ c b,Pm.xsubs c c=some b→ExcC K (ct c)∧(mroTl K (ct c)).contains (.ref (ct "DotError"))=true
  meths:∀ c m f,Pm.meths c m=some f→m≠"__init__"→MethOk P w K mg base (2 * n) (ct c) (Str.ofString m) (spR ct (run Pm n f))
  mk0:∀ c,Pm.mk0 c=true→Mk0 K (ct c)∧mg (Str.ofString c)=some (.ref (ct c))
  globs:∀ x v,Pm.globs x=some v→GlobOk mg x v
structure Cc (X:Cx) (Pm:Prog) (ct:Tx) (n:Nat) (Ra:L2.St→Prop) (E:XK) (N:List Str) (sc:Scope):Prop where
  txt:Txt X.prog X.w X.K X.mg X.base Pm ct n
  calm:X.calm=true
  room:Room (2 * n + 1) X.A
  pas:∀ σ,Ra σ→PassesAt (CX1 X.prog X.w) X σ E
  nm:X.N=N
  sc:X.env.scope=sc
  nd:X.N.Nodup
  hK:X.K=ct.K
section
variable {ct:Tx} {X:Cx} {E:XK} {Pm:Prog} {n:Nat} {Ra:L2.St→Prop} {N:List Str} {sc:Scope}
theorem Cc.units (c:Cc X Pm ct n Ra E N sc):X.A.units + 65 < cLine:=by have:=c.room.un; lia
theorem gl_of {x:Str} (hs:X.env.scope=sc) (h:gl sc x=true):Gl X x∧(x == ("__debug__":Str))=false∧x≠"__name__":=by
  unfold gl at h
  simp only [Bool.and_eq_true,beq_iff_eq,Bool.not_eq_true',decide_eq_true_eq] at h
  refine ⟨?_,h.1.2,h.2⟩
  show X.env.scope.names.lookup x=_
  rw [hs]; exact h.1.1
theorem star_plain {e:Expr} {es:List Expr} {env:Env} (h:plainE e=true):starEach (e::es) env=(false,eval e env)::starEach es env:=by
  cases e <;> first | rfl | (simp [plainE] at h)
theorem mark_plain {e:Expr} (h:plainE e=true) (op:CmpOp):behindInMarks op e=false:=by
  cases e <;> first | rfl | (simp [plainE] at h)
theorem ix_plain {e:Expr} (h:plainE e=true):PlainIx e:=by
  intro o i
  cases e <;> first | rfl | (simp [plainE] at h)
theorem folded_plain {e:Expr} {env:Env} (h:plainE e=true):∀ x,foldedSetIterable e env x=pure x:=by
  intro x
  cases e <;> first | rfl | (simp [plainE] at h)
theorem base_plain {e:Expr} {f:Str} {env:Env} {w:Sem Value} (h:notCall0 e=true):attributeBase e f env w=w:=by
  cases e with
  | Call g as ks p =>
    cases g with
    | Name x q =>
      cases as with
      | nil =>
        cases ks with
        | nil =>
          have h':(x == ("super":Str))=false:=by simpa [notCall0] using h
          have e1:(x != ("super":Str))=true:=by simp [bne,h']
          unfold attributeBase
          simp only [e1,Bool.true_or,if_true]
        | cons _ _=>rfl
      | cons _ _=>rfl
    | _=>rfl
  | _=>rfl
theorem chk_plain {me:ME} {e:Expr} (h:chkE Pm me N sc e=true):plainE e=true:=by
  unfold chkE at h
  exact (Bool.and_eq_true_iff.mp h).1
theorem chk_raw {me:ME} {e:Expr} (h:chkE Pm me N sc e=true):chkR Pm me N sc e=true:=by
  unfold chkE at h
  exact (Bool.and_eq_true_iff.mp h).2
theorem ff {P:Prop} (h:false=true):P:=Bool.noConfusion h
theorem chkEs_cons {m:ME} {ms:List ME} {e:Expr} {es:List Expr} (h:chkEs Pm (m::ms) N sc (e::es)=true):chkE Pm m N sc e=true∧chkEs Pm ms N sc es=true:=Bool.and_eq_true_iff.mp (show (chkE Pm m N sc e&&chkEs Pm ms N sc es)=true from h)
theorem stars_plain {env:Env}:∀ {es:List Expr},(∀ e∈es,plainE e=true)→starEach es env=es.map fun e=>(false,eval e env)
  | [],_=>rfl
  | e::es,h=>by
    rw [star_plain (h e (by simp)),stars_plain fun x hx=>h x (by simp [hx])]; rfl
theorem back_plain {env:Env} {pos:Pos} {es:List Expr} (h:∀ e∈es,plainE e=true):(backTo pos (starEach es env)).any (·.1)=false:=by
  rw [stars_plain h]
  unfold backTo
  rw [List.map_map,List.any_map]
  induction es with
  | nil=>rfl
  | cons e es ih=>simp [Function.comp]
theorem PE.imp {e:Expr} {t t':TE} (p:PE X e t) (k:∀ σ H Q,t' σ H Q→t σ H Q):PE X e t':=fun pins s σ H Q I h=>p pins s σ H Q I (k σ H Q h)
theorem PT.imp {e:Expr} {t t':TT} (p:PT X e t) (k:∀ σ H Q,t' σ H Q→t σ H Q):PT X e t':=fun pins s σ H Q I h=>p pins s σ H Q I (k σ H Q h)
theorem PW.imp {e:Expr} {t t':TT} (p:PW X e t) (k:∀ σ H Q,t' σ H Q→t σ H Q):PW X e t':=fun wh pins s σ H Q I h=>p wh pins s σ H Q I (k σ H Q h)
theorem PA.imp {es:List Expr} {t t':TA} (p:PA X es t) (k:∀ σ H Q,t' σ H Q→t σ H Q):PA X es t':=fun pos pins s σ H Q I h=>p pos pins s σ H Q I (k σ H Q h)
theorem PS.imp {e:Stmt} {t t':TS} (p:PS X e t) (k:∀ D σ H,t' D σ H→t D σ H):PS X e t':=fun pins s σ H D I h=>p pins s σ H D I (k D σ H h)
theorem PSs.imp {e:List Stmt} {t t':TS} (p:PSs X e t) (k:∀ D σ H,t' D σ H→t D σ H):PSs X e t':=fun pins s σ H D I h=>p pins s σ H D I (k D σ H h)
noncomputable def lG (ct:Tx) (tg:Tg):TG:=fun v σ H Q=>∃ μ h σs m σs',Rel ct μ h H∧RelSt ct μ h H σ σs∧RV ct μ (Liv μ h) H m v∧bindT tg m σs=some σs'∧∀ σ',RelSt ct μ h H σ' σs'→Q σ' H
noncomputable def lGs (ct:Tx) (tgs:List Tg):TGs:=fun vs σ H Q=>∃ μ h σs ms σs',Rel ct μ h H∧RelSt ct μ h H σ σs∧RVs ct μ (Liv μ h) H ms vs∧bindTs tgs ms σs=some σs'∧∀ σ',RelSt ct μ h H σ' σs'→Q σ' H
theorem PG.imp {e:Expr} {t t':TG} (p:PG X e t) (k:∀ v σ H Q,t' v σ H Q→t v σ H Q):PG X e t':=fun pins s σ H v u Q I r h=>p pins s σ H v u Q I r (k v σ H Q h)
theorem PGs.imp {e:List Expr} {t t':TGs} (p:PGs X e t) (k:∀ v σ H Q,t' v σ H Q→t v σ H Q):PGs X e t':=fun pins s σ H v u Q I r h=>p pins s σ H v u Q I r (k v σ H Q h)
theorem chkT_star {lo:Str→Bool} {t:Tg} {e:Expr} (h:chkT lo N sc t e=true):∀ (es:List Expr) (env:Env),assignEach (e::es) env=(false,assign e env)::assignEach es env:=by
  intro es env
  cases t with
  | nm i=>cases e <;> first | rfl | (simp [chkT] at h)
  | tp ts=>cases e <;> first | rfl | (simp [chkT] at h)
theorem chkTs_star {lo:Str→Bool} {env:Env}:∀ {ts:List Tg} {es:List Expr},chkTs lo N sc ts es=true→(assignEach es env).length=ts.length∧(assignEach es env).findIdx? (·.1)=none
  | [],[],_=>⟨rfl,rfl⟩
  | [],_::_,h=>by simp [chkTs] at h
  | _::_,[],h=>by simp [chkTs] at h
  | t::ts,e::es,h=>by
    simp only [chkTs,Bool.and_eq_true] at h
    obtain ⟨h1,h2⟩:=chkTs_star (env:=env) h.2
    rw [chkT_star h.1 es env]
    exact ⟨by simp [h1],by rw [List.findIdx?_cons]; simp [h2]⟩
theorem bindTs_len:∀ {ts:List Tg} {ms:List MV} {σs σs':MSt},bindTs ts ms σs=some σs'→ms.length=ts.length
  | [],[],_,_,_=>rfl
  | [],_::_,_,_,e=>by simp [bindTs] at e
  | _::_,[],_,_,e=>by simp [bindTs] at e
  | t::ts,m::ms,σs,σs',e=>by
    simp only [bindTs,Option.bind_eq_some_iff] at e
    obtain ⟨σ1,_,e2⟩:=e
    simp [bindTs_len e2]
mutual
theorem sG {lo:Str→Bool} (hN:X.N=N) (hs:X.env.scope=sc) (nd:X.N.Nodup) (hc:X.calm=true) (hf:∀ x,lo x=true→X.fn x=true):∀ (t:Tg) (e:Expr),chkT lo N sc t e=true→PG X e (lG ct t)
  | .nm i,e,h=>by
    cases e with
    | Name x p =>
      simp only [chkT,stoB,Bool.and_eq_true,beq_iff_eq,Bool.or_eq_true] at h
      obtain ⟨h1,h2⟩:=h
      have hi:X.N[i]?=some x:=by rw [hN]; exact h1
      have hk:Loc X.env.scope x:=by
        rw [hs]
        rcases h2 with h2 | ⟨_,h2⟩
        · exact .inl h2
        · exact .inr h2
      have hf':X.fn x=true∨X.env.scope.names.lookup x=some .local:=by
        rw [hs]
        rcases h2 with h2 | ⟨hl,h2⟩
        · exact .inr h2
        · exact .inl (hf x hl)
      refine PG.imp (pg_name nd hi hk hf') fun v σ H Q q=>?_
      obtain ⟨μ,hh,σs,m,σs',rel,rst,r,e,k⟩:=q
      simp [bindT] at e
      subst e
      exact k _ (rst.set i r)
    | _=>simp [chkT] at h
  | .tp ts,e,h=>by
    cases e with
    | Tuple es k p =>
      simp only [chkT] at h
      obtain ⟨h1,h2⟩:=chkTs_star (env:=X.env) h
      refine PG.imp (pg_tup hc (sGs hN hs nd hc hf ts es h) h1 h2) fun v σ H Q q=>?_
      obtain ⟨μ,hh,σs,m,σs',rel,rst,r,e,k⟩:=q
      simp only [bindT,Option.bind_eq_some_iff] at e
      obtain ⟨ms,e1,e2⟩:=e
      obtain ⟨a,vs,rfl,_,rd,rs⟩:=tupOf_rv e1 r
      exact ⟨a,vs,rfl,.inl (.inl rd),by rw [rs.length]; exact bindTs_len e2,μ,hh,σs,ms,σs',rel,rst,rs,e2,k⟩
    | _=>simp [chkT] at h
theorem sGs {lo:Str→Bool} (hN:X.N=N) (hs:X.env.scope=sc) (nd:X.N.Nodup) (hc:X.calm=true) (hf:∀ x,lo x=true→X.fn x=true):∀ (ts:List Tg) (es:List Expr),chkTs lo N sc ts es=true→PGs X es (lGs ct ts)
  | [],es,h=>by
    cases es with
    | nil =>
      refine PGs.imp pgs_nil fun v σ H Q q=>?_
      obtain ⟨μ,hh,σs,ms,σs',rel,rst,rs,e,k⟩:=q
      cases ms with
      | nil =>
        simp only [RVs] at rs; subst rs
        simp [bindTs] at e; subst e
        exact ⟨rfl,k _ rst⟩
      | cons m ms=>simp [bindTs] at e
    | cons e es=>simp [chkTs] at h
  | t::ts,es,h=>by
    cases es with
    | nil=>simp [chkTs] at h
    | cons e es =>
      simp only [chkTs,Bool.and_eq_true] at h
      refine PGs.imp (pgs_cons (sG hN hs nd hc hf t e h.1) (sGs hN hs nd hc hf ts es h.2) (by rw [chkT_star h.1 es X.env]; rfl)) fun v σ H Q q=>?_
      obtain ⟨μ,hh,σs,ms,σs',rel,rst,rs,e,k⟩:=q
      cases ms with
      | nil=>simp [bindTs] at e
      | cons m ms =>
        simp only [bindTs,Option.bind_eq_some_iff] at e
        obtain ⟨σ1,e1,e2⟩:=e
        simp only [RVs] at rs
        obtain ⟨v1,vr,rfl,r1,r2⟩:=rs
        exact ⟨v1,vr,rfl,μ,hh,σs,m,σ1,rel,rst,r1,e1,fun σ' rst'=>⟨μ,hh,σ1,ms,σs',rel,rst',r2,e2,k⟩⟩
end
end
section
variable {ct:Tx} {X:Cx} {E:XK} {Pm:Prog} {n:Nat} {Ra:L2.St→Prop} {N:List Str} {sc:Scope}
theorem PI.imp {tg e:Expr} {t t':TI} (p:PI X tg e t) (k:∀ σ H Q,t' σ H Q→t σ H Q):PI X tg e t':=fun pins s σ H Q I h=>p pins s σ H Q I (k σ H Q h)
noncomputable def Wk (ct:Tx) (J:It) (items:List MV) (g:Guard) (μ1:List Addr) (h1:MH) (H1:Hp):Prop:=∀ (i:Nat) μ h H,Ext μ1 h1 H1 μ h H→Rel ct μ h H→GuardOk g h →
  (i < items.length→J.go i H∧∀ x H2,J.yld i H x H2→∃ m,items[i]?=some m∧Ext μ h H μ h H2∧Rel ct μ h H2∧RV ct μ (Liv μ h) H2 m x)∧(i=items.length→J.stop i H)
noncomputable def Stay (ct:Tx) (b:Bool) (a:Addr) (items:List MV) (g:Guard) (μ1:List Addr) (h1:MH) (H1:Hp):Prop:=∀ μ h H,Ext μ1 h1 H1 μ h H→Rel ct μ h H→GuardOk g h→∃ vs,SqR ct H b a vs∧RVs ct μ (Liv μ h) H items vs
theorem stay_of {μ:List Addr} {h:MH} {H:Hp} {m:MV} {v:V} {items:List MV} (rel:Rel ct μ h H) (e:seqOf h m=some items) (r:RV ct μ (Liv μ h) H m v):∃ b a,v=.ref a∧Stay ct b a items (guardOf h m) μ h H:=by
  cases m with
  | f x =>
    rcases seqOf_split e with e' | e' | ⟨ns,e',rfl⟩
    · obtain ⟨a,vs,rfl,na,rd,rs⟩:=tupOf_rv e' r
      exact ⟨true,a,rfl,fun μ' h' H' ex _ _=>⟨vs,SqT.of (ex.keep a _ rd na),rs.ext ex⟩⟩
    · cases x with
      | lst xs =>
        simp only [RV,RF] at r
        obtain ⟨a,vs,rfl,na,rd,rs⟩:=r
        cases e'
        exact ⟨false,a,rfl,fun μ' h' H' ex _ _=>⟨vs,.inl (Rd.keep (fun o q=>ex.keep a o q na) rd),(RVs.ofF (μ:=μ) rs).ext ex⟩⟩
      | _=>cases e'
    · cases e'
      simp only [RV,RF] at r
      obtain ⟨a,rfl,q⟩:=r
      exact ⟨false,a,rfl,fun μ' h' H' ex _ _=>⟨_,scr_sq (L:=Liv μ' h') (q.imp (fun ⟨n,o,e⟩=>⟨ex.let.liv a _ e n,o,ex.keep a _ e n⟩) id),ints_rv ns⟩⟩
  | tup xs =>
    rcases seqOf_split e with e' | e' | ⟨ns,e',_⟩
    · obtain ⟨a,vs,rfl,na,rd,rs⟩:=tupOf_rv e' r
      exact ⟨true,a,rfl,fun μ' h' H' ex _ _=>⟨vs,SqT.of (ex.keep a _ rd na),rs.ext ex⟩⟩
    · cases e'
    · cases e'
  | ref i =>
    have e0:cellL h i=some items:=e
    simp only [RV] at r
    obtain ⟨b,eb,rfl⟩:=r
    refine ⟨false,b,rfl,fun μ' h' H' ex rel' g=>?_⟩
    have g':cellL h' i=some items:=g (i,items) (by simp [guardOf,e0])
    obtain ⟨b',vs,eb',hb,rs⟩:=rel'.lst g'
    obtain ⟨ν,rfl⟩:=ex.pre
    rw [List.getElem?_append_left (List.getElem?_eq_some_iff.mp eb).1,eb] at eb'
    cases eb'
    exact ⟨vs,SqL.of hb,rs⟩
  | exc c=>cases e
theorem GuardOk.left {g g':Guard} {h:MH} (k:GuardOk (g++g') h):GuardOk g h:=fun p hp=>k p (List.mem_append_left _ hp)
theorem GuardOk.right {g g':Guard} {h:MH} (k:GuardOk (g++g') h):GuardOk g' h:=fun p hp=>k p (List.mem_append_right _ hp)
theorem wk_seq {K:PySem.W.Frag} (hK:K=ct.K) {b:Bool} {a:Addr} {items:List MV} {g:Guard} {μ1:List Addr} {h1:MH} {H1:Hp} (st:Stay ct b a items g μ1 h1 H1):Wk ct (Its K b a) items g μ1 h1 H1:=by
  intro i μ h H ex rel gd
  obtain ⟨vs,sq,rs⟩:=st μ h H ex rel gd
  have hl:=rs.length
  refine ⟨fun hi=>⟨Its.go (sq.s hK) (by lia),fun x H2 y=>?_⟩,fun hi=>?_⟩
  · obtain ⟨rfl,e⟩:=Its.yld (sq.s hK) y
    obtain ⟨m,em,rm⟩:=rs.get' e
    exact ⟨m,em,Ext.refl _ _ _,rel,rm⟩
  · rw [hi,← hl]; exact Its.stop (sq.s hK)
theorem wk_zip {K:PySem.W.Frag} (hK:K=ct.K) {b1 b2:Bool} {a1 a2:Addr} {xs ys:List MV} {g g':Guard} {μ1:List Addr} {h1:MH} {H1:Hp} (s1:Stay ct b1 a1 xs g μ1 h1 H1) (s2:Stay ct b2 a2 ys g' μ1 h1 H1) :
    Wk ct (Itz K b1 b2 a1 a2) ((xs.zip ys).map fun p=>mkTup [p.1,p.2]) (g++g') μ1 h1 H1:=by
  intro i μ h H ex rel gd
  obtain ⟨vs,sq,rs⟩:=s1 μ h H ex rel (GuardOk.left gd)
  obtain ⟨ws,sq',rs'⟩:=s2 μ h H ex rel (GuardOk.right gd)
  have hl:=rs.length
  have hl':=rs'.length
  refine ⟨fun hi=>?_,fun hi=>?_⟩
  · simp only [List.length_map,List.length_zip] at hi
    refine ⟨⟨vs,ws,sq.s hK,sq'.s hK,by lia,by lia⟩,fun x H2 y=>?_⟩
    obtain ⟨T,x1,y1,rfl,hT,rfl,e1,e2⟩:=y
    obtain ⟨m1,em1,r1⟩:=rs.get' (e1 vs (sq.s hK))
    obtain ⟨m2,em2,r2⟩:=rs'.get' (e2 ws (sq'.s hK))
    have exn:=Ext.new rel hT (.tup [x1,y1])
    refine ⟨mkTup [m1,m2],?_,exn,rel.new hT _,mkTup_rv (liv_not rel hT) upd_same (RVs.cons (r1.ext exn) (RVs.cons (r2.ext exn) RVs.nil))⟩
    simp only [List.getElem?_map,List.getElem?_zip_eq_some,Option.map_eq_some_iff]
    exact ⟨(m1,m2),⟨em1,em2⟩,rfl⟩
  · simp only [List.length_map,List.length_zip] at hi
    refine ⟨vs,ws,sq.s hK,sq'.s hK,?_⟩
    lia
theorem wk_enum {K:PySem.W.Frag} (hK:K=ct.K) {b:Bool} {a:Addr} {xs:List MV} {g:Guard} {μ1:List Addr} {h1:MH} {H1:Hp} (s1:Stay ct b a xs g μ1 h1 H1):Wk ct (Ite K b a) (xs.mapIdx fun k x=>mkTup [.f (.int k),x]) g μ1 h1 H1:=by
  intro i μ h H ex rel gd
  obtain ⟨vs,sq,rs⟩:=s1 μ h H ex rel gd
  have hl:=rs.length
  refine ⟨fun hi=>?_,fun hi=>?_⟩
  · simp only [List.length_mapIdx] at hi
    refine ⟨⟨vs,sq.s hK,by lia⟩,fun x H2 y=>?_⟩
    obtain ⟨T,x1,rfl,hT,rfl,e1⟩:=y
    obtain ⟨m1,em1,r1⟩:=rs.get' (e1 vs (sq.s hK))
    have exn:=Ext.new rel hT (.tup [.int i,x1])
    refine ⟨mkTup [.f (.int i),m1],?_,exn,rel.new hT _,mkTup_rv (liv_not rel hT) upd_same (RVs.cons (rv_mkI _) (RVs.cons (r1.ext exn) RVs.nil))⟩
    rw [List.getElem?_mapIdx,em1]; rfl
  · simp only [List.length_mapIdx] at hi
    exact ⟨vs,sq.s hK,by lia⟩
theorem wk_rng {lo:Int} {k:Nat} {μ1:List Addr} {h1:MH} {H1:Hp} (f:Nat→Int) (hf:∀ i:Nat,f i=lo + i):Wk ct (Itr lo k) ((List.range k).map fun i=>MV.f (.int (f i))) [] μ1 h1 H1:=by
  intro i μ h H ex rel gd
  refine ⟨fun hi=>?_,fun hi=>?_⟩
  · have hi':i < k:=by simpa using hi
    refine ⟨hi',fun x H2 y=>?_⟩
    obtain ⟨rfl,rfl⟩:=y
    refine ⟨.f (.int (f i)),by simp [hi'],Ext.refl _ _ _,rel,?_⟩
    rw [hf]; exact rv_mkI _
  · have hi':i=k:=by simpa using hi
    exact Nat.le_of_eq hi'.symm
theorem wk_rngS {lo st:Int} {k:Nat} {μ1:List Addr} {h1:MH} {H1:Hp}:Wk ct (ItrS lo st k) ((List.range k).map fun (i:Nat)=>MV.f (.int (lo + i * st))) [] μ1 h1 H1:=by
  intro i μ h H ex rel gd
  refine ⟨fun hi=>?_,fun hi=>?_⟩
  · have hi':i < k:=by simpa using hi
    refine ⟨hi',fun x H2 y=>?_⟩
    obtain ⟨rfl,rfl⟩:=y
    exact ⟨.f (.int (lo + i * st)),by simp [hi'],Ext.refl _ _ _,rel,rv_mkI _⟩
  · have hi':i=k:=by simpa using hi
    exact Nat.le_of_eq hi'.symm
theorem rvs_three {μ:List Addr} {L:Addr→Prop} {H:Hp} {m m' m'':MV} {vs:List V} (r:RVs ct μ L H [m,m',m''] vs):∃ v v' v'',vs=[v,v',v'']∧RV ct μ L H m v∧RV ct μ L H m' v'∧RV ct μ L H m'' v'':=by
  simp only [RVs] at r
  obtain ⟨v,t,rfl,r1,v',t',rfl,r2,v'',t'',rfl,r3,rfl⟩:=r
  exact ⟨v,v',v'',rfl,r1,r2,r3⟩
noncomputable def lI (ct:Tx) (Ra:L2.St→Prop) (E:XK) (ev:MSt→MH→R (List MV)) (it:String):TI:=fun σ H R=>∃ μ h σs,Rel ct μ h H∧RelSt ct μ h H σ σs∧Ra σ ∧
  Po ct E (ev σs h) μ h H fun xs μ1 h1 H1=>∃ items g,itV it xs h1=some (items,g)∧Rel ct μ1 h1 H1∧∀ J,Wk ct J items g μ1 h1 H1→R J H1
theorem sI_seq (hK:X.K=ct.K) {tg e:Expr} {ev:MSt→MH→R MV} (h:PE X e (lE ct Ra E ev)):PI X tg e (lI ct Ra E (fun σ hh=>(ev σ hh).bind fun x h1=>.ok [x] h1) "seq"):=PI.imp (k_sq X.K h) fun σ H Q q=>by
  obtain ⟨μ,hh,σs,rel,rst,ra,p⟩:=q
  refine lE.mk rel rst ra p fun m v μ1 h1 H1 ex rel1 rst1 rv p1=>?_
  obtain ⟨items,g,e1,_,k⟩:=p1.now rel1
  simp only [itV_seq,Option.map_eq_some_iff,Prod.mk.injEq] at e1
  obtain ⟨xs,e2,rfl,rfl⟩:=e1
  obtain ⟨b,a,rfl,st⟩:=stay_of rel1 e2 rv
  obtain ⟨vs,sq,_⟩:=st μ1 h1 H1 (Ext.refl _ _ _) rel1 (fun p hp=>by
    cases m with
    | ref i =>
      have e0:cellL h1 i=some xs:=e2
      simp [guardOf,e0] at hp
      subst hp; exact e0
    | f _=>simp [guardOf] at hp
    | tup _=>simp [guardOf] at hp
    | exc _=>simp [guardOf] at hp)
  exact ⟨b,a,rfl,⟨vs,sq.s hK⟩,k _ (wk_seq hK st)⟩
theorem guard_now {h1:MH} {m:MV} {xs:List MV} (e2:seqOf h1 m=some xs):GuardOk (guardOf h1 m) h1:=fun p hp=>by
  cases m with
  | ref i =>
    have e0:cellL h1 i=some xs:=e2
    simp [guardOf,e0] at hp
    subst hp; exact e0
  | f _=>simp [guardOf] at hp
  | tup _=>simp [guardOf] at hp
  | exc _=>simp [guardOf] at hp
theorem sI_range {tg:Expr} {es:List Expr} {p pos:Pos} {ev:MSt→MH→R (List MV)} (hg:Gl X "range") (hm:X.mg "range"=none) (ha:PA X es (lA ct Ra E ev)) (hpl:∀ e∈es,plainE e=true) (hl:(es.length=1∨es.length=2)∨es.length=3) (hn:∀ σ h xs h',ev σ h=.ok xs h'→xs.length=es.length) :
    PI X tg (.Call (.Name "range" p) es [] pos) (lI ct Ra E ev "range"):=by
  rcases es with _ | ⟨a,_ | ⟨b,_ | ⟨c,_ | ⟨d,es⟩⟩⟩⟩
  · simp at hl
  · refine PI.imp (pi_range1 hg hm ha (stars_plain hpl)) fun σ H Q q=>?_
    obtain (⟨μ,hh,σs,rel,rst,ra,p⟩):=q
    refine ⟨μ,hh,σs,rel,rst,ra,?_⟩
    cases er:ev σs hh with
    | exc c h'=>rw [er] at p; exact p
    | stuck=>rw [er] at p; exact p
    | ok xs h' =>
      rw [er] at p
      have hx:=hn _ _ _ _ er
      intro μ' H' ex rel' vs rvs
      obtain (⟨items,g,e1,_,k⟩):=p μ' H' ex rel'
      rcases xs with _ | ⟨m,_ | ⟨m2,xs⟩⟩
      · simp at hx
      · obtain (⟨v,rfl,rm⟩):=rvs_one rvs
        simp only [itV_r1,Option.bind_eq_some_iff] at e1
        obtain (⟨j,e2,e3⟩):=e1
        have:=intOf_eq e2; subst this
        split at e3
        next c =>
          simp only [Option.some.injEq,Prod.mk.injEq] at e3
          obtain (⟨rfl,rfl⟩):=e3
          rw [rv_int rm]
          exact ⟨j,rfl,c.1,c.2,k _ (wk_rng _ fun i=>by simp)⟩
        next=>cases e3
      · simp at hx
  · refine PI.imp (pi_range2 hg hm ha (stars_plain hpl) (stars_plain fun e he=>hpl e (by simp at he; simp [he]))) fun σ H Q q=>?_
    obtain (⟨μ,hh,σs,rel,rst,ra,p⟩):=q
    refine ⟨μ,hh,σs,rel,rst,ra,?_⟩
    cases er:ev σs hh with
    | exc c h'=>rw [er] at p; exact p
    | stuck=>rw [er] at p; exact p
    | ok xs h' =>
      rw [er] at p
      have hx:=hn _ _ _ _ er
      intro μ' H' ex rel' vs rvs
      obtain (⟨items,g,e1,_,k⟩):=p μ' H' ex rel'
      rcases xs with _ | ⟨m,_ | ⟨m2,_ | ⟨m3,xs⟩⟩⟩
      · simp at hx
      · simp at hx
      · obtain (⟨v,v',rfl,rm,rm'⟩):=rvs_two rvs
        simp only [itV_r2,Option.bind_eq_some_iff] at e1
        obtain (⟨i,e2,j,e3,e4⟩):=e1
        have:=intOf_eq e2; subst this
        have:=intOf_eq e3; subst this
        split at e4
        next c =>
          simp only [Option.some.injEq,Prod.mk.injEq] at e4
          obtain (⟨rfl,rfl⟩):=e4
          rw [rv_int rm,rv_int rm']
          exact ⟨i,j,rfl,⟨c.1,c.2.1,c.2.2.1,c.2.2.2⟩,k _ (wk_rng _ fun i=>rfl)⟩
        next=>cases e4
      · simp at hx
  · refine PI.imp (pi_range3 hg hm ha (stars_plain hpl) (stars_plain fun e he=>hpl e (by simp at he; rcases he with he | he <;> simp [he]))) fun σ H Q q=>?_
    obtain (⟨μ,hh,σs,rel,rst,ra,p⟩):=q
    refine ⟨μ,hh,σs,rel,rst,ra,?_⟩
    cases er:ev σs hh with
    | exc c h'=>rw [er] at p; exact p
    | stuck=>rw [er] at p; exact p
    | ok xs h' =>
      rw [er] at p
      have hx:=hn _ _ _ _ er
      intro μ' H' ex rel' vs rvs
      obtain (⟨items,g,e1,_,k⟩):=p μ' H' ex rel'
      rcases xs with _ | ⟨m,_ | ⟨m2,_ | ⟨m3,_ | ⟨m4,xs⟩⟩⟩⟩
      · simp at hx
      · simp at hx
      · simp at hx
      · obtain (⟨v,v',v'',rfl,rm,rm',rm''⟩):=rvs_three rvs
        simp only [itV_r3,Option.bind_eq_some_iff] at e1
        obtain (⟨i,e2,j,e3,l,e4,e5⟩):=e1
        have:=intOf_eq e2; subst this
        have:=intOf_eq e3; subst this
        have:=intOf_eq e4; subst this
        split at e5
        next c =>
          simp only [Option.some.injEq,Prod.mk.injEq] at e5
          obtain (⟨rfl,rfl⟩):=e5
          rw [rv_int rm,rv_int rm',rv_int rm'']
          exact ⟨i,j,l,rfl,c,k _ wk_rngS⟩
        next=>cases e5
      · simp at hx
  · simp at hl
theorem sI_zip (hK:X.K=ct.K) {a b:Expr} {es:List Expr} {kt:Nat} {pt p pos:Pos} {ev:MSt→MH→R (List MV)} (hg:Gl X "zip") (hm:X.mg "zip"=none) (ha:PA X [a,b] (lA ct Ra E ev)) (hpl:∀ e∈[a,b],plainE e=true) (hn:∀ σ h xs h',ev σ h=.ok xs h'→xs.length=2) :
    PI X (.Tuple es kt pt) (.Call (.Name "zip" p) [a,b] [] pos) (lI ct Ra E ev "zip"):=by
  refine PI.imp (k_zip X.K hg hm ha (stars_plain hpl) (stars_plain fun e he=>hpl e (by simp at he; simp [he]))) fun σ H Q q=>?_
  obtain ⟨μ,hh,σs,rel,rst,ra,p⟩:=q
  refine ⟨μ,hh,σs,rel,rst,ra,?_⟩
  cases er:ev σs hh with
  | exc c h'=>rw [er] at p; exact p
  | stuck=>rw [er] at p; exact p
  | ok xs h' =>
    rw [er] at p
    have hx:=hn _ _ _ _ er
    intro μ' H' ex rel' vs rvs
    obtain ⟨items,g,e1,_,k⟩:=p μ' H' ex rel'
    rcases xs with _ | ⟨m,_ | ⟨m2,_ | ⟨m3,xs⟩⟩⟩
    · simp at hx
    · simp at hx
    · obtain ⟨v,v',rfl,rm,rm'⟩:=rvs_two rvs
      simp only [itV_zip,Option.bind_eq_some_iff,Option.map_eq_some_iff,Prod.mk.injEq] at e1
      obtain ⟨us,e2,ws,e3,rfl,rfl⟩:=e1
      obtain ⟨b1,a1,rfl,s1⟩:=stay_of rel' e2 rm
      obtain ⟨b2,a2,rfl,s2⟩:=stay_of rel' e3 rm'
      obtain ⟨vs1,q1,_⟩:=s1 _ _ _ (Ext.refl _ _ _) rel' (guard_now e2)
      obtain ⟨vs2,q2,_⟩:=s2 _ _ _ (Ext.refl _ _ _) rel' (guard_now e3)
      exact ⟨b1,b2,a1,a2,rfl,⟨vs1,q1.s hK⟩,⟨vs2,q2.s hK⟩,k _ (wk_zip hK s1 s2)⟩
    · simp at hx
theorem sI_enum (hK:X.K=ct.K) {a:Expr} {es:List Expr} {kt:Nat} {pt p pos:Pos} {ev:MSt→MH→R (List MV)} (hg:Gl X "enumerate") (hm:X.mg "enumerate"=none) (ha:PA X [a] (lA ct Ra E ev)) (hpl:∀ e∈[a],plainE e=true) (hn:∀ σ h xs h',ev σ h=.ok xs h'→xs.length=1) :
    PI X (.Tuple es kt pt) (.Call (.Name "enumerate" p) [a] [] pos) (lI ct Ra E ev "enumerate"):=by
  refine PI.imp (k_enum X.K hg hm ha (stars_plain hpl)) fun σ H Q q=>?_
  obtain ⟨μ,hh,σs,rel,rst,ra,p⟩:=q
  refine ⟨μ,hh,σs,rel,rst,ra,?_⟩
  cases er:ev σs hh with
  | exc c h'=>rw [er] at p; exact p
  | stuck=>rw [er] at p; exact p
  | ok xs h' =>
    rw [er] at p
    have hx:=hn _ _ _ _ er
    intro μ' H' ex rel' vs rvs
    obtain ⟨items,g,e1,_,k⟩:=p μ' H' ex rel'
    rcases xs with _ | ⟨m,_ | ⟨m2,xs⟩⟩
    · simp at hx
    · obtain ⟨v,rfl,rm⟩:=rvs_one rvs
      simp only [itV_enum,Option.map_eq_some_iff,Prod.mk.injEq] at e1
      obtain ⟨us,e2,rfl,rfl⟩:=e1
      obtain ⟨b1,a1,rfl,s1⟩:=stay_of rel' e2 rm
      obtain ⟨vs1,q1,_⟩:=s1 _ _ _ (Ext.refl _ _ _) rel' (guard_now e2)
      exact ⟨b1,a1,rfl,⟨vs1,q1.s hK⟩,k _ (wk_enum hK s1)⟩
    · simp at hx
end
theorem ofString_inj {a b:String} (h:Str.ofString a=Str.ofString b):a=b:=by
  rw [Str.ofString_eq_toList,Str.ofString_eq_toList] at h
  injection h with h
  have h2:a.toList.map Char.toNat=b.toList.map Char.toNat:=by simpa using congrArg Array.toList h
  have h3:a.toList=b.toList:=by
    refine (List.map_inj_right fun x y e=>?_).mp h2
    exact Char.ext (UInt32.toNat_inj.mp e)
  exact String.ext h3
section
variable {ct:Tx} {X:Cx} {E:XK} {Pm:Prog} {n:Nat} {Ra:L2.St→Prop} {N:List Str} {sc:Scope}
noncomputable def tst (ev:MSt→MH→R MV):MSt→MH→R Bool:=fun σ h=>(ev σ h).bind fun x h1=>opt (blOf x) fun k=>.ok k h1
theorem tst_lE {ev:MSt→MH→R MV} {σ:L2.St} {H:Hp} {Q:Bool→Hp→Prop} (q:lT ct Ra E (tst ev) σ H Q):lE ct Ra E ev σ H fun x H'=>∃ k,x=.bl k∧Q k H':=by
  obtain ⟨μ,h,σs,rel,rst,ra,p⟩:=q
  refine lE.mk rel rst ra p fun m v μ1 h1 H1 ex rel1 rst1 rv p1=>?_
  obtain ⟨k,e,p2⟩:=Po.opt p1
  have:=blOf_eq e; subst this
  exact ⟨k,rv_bl rv,p2.now rel1⟩
theorem both_of {e:Expr} {t:TE} {ev:MSt→MH→R MV} (p:PE X e t) (pt:PT X e (tTest t)) (k:∀ σ H Q,lE ct Ra E ev σ H Q→t σ H Q):PE X e (lE ct Ra E ev)∧PT X e (lT ct Ra E (tst ev)) :=
  ⟨PE.imp p k,PT.imp pt fun σ H Q q=>k σ H _ (tst_lE q)⟩
theorem both_val {e:Expr} {ev:MSt→MH→R MV} (p:PE X e (lE ct Ra E ev)) (he:∀ whole,isTrue e X.env whole=(do let v←whole; standAt e.pos; holding [v] (truthy v)):=by intro _; rfl):PE X e (lE ct Ra E ev)∧PT X e (lT ct Ra E (tst ev)) :=
  ⟨p,PT.imp (pt_val p he) fun σ H Q q=>tst_lE q⟩
section
variable {ea eb ec:MSt→MH→R MV} {a b c:Expr} {pos:Pos}
theorem e_const {v:V} {x:FV} (h:PE X a (tC v)) (r:∀ μ L H,RV ct μ L H (.f x) v):PE X a (lE ct Ra E fun _ h=>.ok (.f x) h):=PE.imp h fun σ H Q q=>by
  obtain ⟨μ,hh,σs,rel,rst,ra,p⟩:=q
  exact p.now rel v (r _ _ _)
theorem e_var {i:Nat} {x:Str} (hN:X.N[i]?=some x) (hv:visB X.env.scope x=true):PE X (.Name x pos) (lE ct Ra E fun σ h=>opt ((σ[i]?).join) fun v=>.ok v h):=by
  unfold visB at hv
  simp only [Bool.and_eq_true,Bool.or_eq_true,beq_iff_eq,Bool.not_eq_true'] at hv
  refine PE.imp (pe_var hN (by rcases hv.1.1 with (h | h) | h; exact .inl h; exact .inr (.inl h); exact .inr (.inr h)) hv.1.2 hv.2) fun σ H Q q=>?_
  obtain ⟨μ,hh,σs,rel,rst,ra,p⟩:=q
  obtain ⟨m,e,p⟩:=Po.opt p
  have e':σs[i]?=some (some m):=by
    cases q:σs[i]? with
    | none=>rw [q] at e; cases e
    | some z=>rw [q] at e; exact congrArg some e
  obtain ⟨v,e2,rv⟩:=rst.at_ i m e'
  exact ⟨v,e2,p.now rel v rv⟩
theorem e_bin (fz:Bool) (op:BO) (ha:PE X a (lE ct Ra E ea)) (hb:PE X b (lE ct Ra E eb)):PE X (.BinOp a (mOp op) b pos) (lE ct Ra E fun σ h=>(ea σ h).bind fun x h1=>(eb σ h1).bind fun y h2=>binV fz op x y h2) :=
  PE.imp (pe_op (ob_all (ct:=ct) (E:=E) fz op) ha hb) fun σ H Q q=>by
    obtain ⟨μ,h,σs,rel,rst,ra,p⟩:=q
    exact lE.mk rel rst ra p fun m v μ1 h1 H1 ex rel1 rst1 rv p1=>lE.mk rel1 rst1 ra p1 fun m2 v2 μ2 h2 H2 ex2 rel2 rst2 rv2 p2=>⟨μ2,h2,m,m2,rel2,rv.ext ex2,rv2,p2⟩
theorem e_neg (ha:PE X a (lE ct Ra E ea)):PE X (.UnaryOp .USub a pos) (lE ct Ra E fun σ h=>(ea σ h).bind fun x h1=>opt (intOf x) fun i=>.ok (.f (.int (-i))) h1) :=
  PE.imp (pe_un un_neg ha) fun σ H Q q=>by
    obtain ⟨μ,h,σs,rel,rst,ra,p⟩:=q
    refine lE.mk rel rst ra p fun m v μ1 h1 H1 ex rel1 rst1 rv p1=>?_
    obtain ⟨i,e,p2⟩:=Po.opt p1
    have:=intOf_eq e; subst this
    exact ⟨i,rv_int rv,p2.now rel1 _ (rv_mkI _)⟩
theorem e_cmp (hK:X.K=ct.K) (op:CO) (hu:X.A.units + 65 < cLine) (ha:PE X a (lE ct Ra E ea)) (hb:PE X b (lE ct Ra E eb)) (hp:plainE b=true) :
    PE X (.Compare a [mCmp op] [b] pos) (lE ct Ra E fun σ h=>(ea σ h).bind fun x h1=>(eb σ h1).bind fun y h2=>opt (cmpV op x y h2) fun k=>.ok (.f (.bl k)) h2) ∧
    PT X (.Compare a [mCmp op] [b] pos) (lT ct Ra E (tst fun σ h=>(ea σ h).bind fun x h1=>(eb σ h1).bind fun y h2=>opt (cmpV op x y h2) fun k=>.ok (.f (.bl k)) h2)) :=
  both_of (pe_cmpR (oc_all (ct:=ct) hK hu op) ha hb (mark_plain hp _)) (pt_cmpR (oc_all (ct:=ct) hK hu op) ha hb (mark_plain hp _)) fun σ H Q q=>by
    obtain ⟨μ,h,σs,rel,rst,ra,p⟩:=q
    refine lE.mk rel rst ra p fun m v μ1 h1 H1 ex rel1 rst1 rv p1=>lE.mk rel1 rst1 ra p1 fun m2 v2 μ2 h2 H2 ex2 rel2 rst2 rv2 p2=>?_
    obtain ⟨k,e,p3⟩:=Po.opt p2
    exact ⟨μ2,h2,m,m2,k,rel2,rv.ext ex2,rv2,e,p3.now rel2 _ (rv_mkB _)⟩
theorem non_rv {μ:List Addr} {L:Addr→Prop} {H:Hp} {m:MV} {v:V} (r:RV ct μ L H m v):isNon m=decide (v=.non):=by
  cases m with
  | f x =>
    cases x with
    | non=>simp only [RV,RF] at r; subst r; rfl
    | bl _=>simp only [RV,RF] at r; subst r; rfl
    | int _=>simp only [RV,RF] at r; subst r; rfl
    | str _=>simp only [RV,RF] at r; subst r; rfl
    | tup _=>simp only [RV,RF] at r; obtain ⟨_,_,rfl,_⟩:=r; rfl
    | lst _=>simp only [RV,RF] at r; obtain ⟨_,_,rfl,_⟩:=r; rfl
    | obj _ _ _=>simp only [RV,RF] at r; obtain ⟨_,_,_,rfl,_⟩:=r; rfl
    | scr _=>simp only [RV,RF] at r; obtain ⟨_,rfl,_⟩:=r; rfl
    | tab _=>simp only [RV,RF] at r; obtain ⟨_,_,rfl,_⟩:=r; rfl
    | msk _=>simp only [RV,RF] at r; obtain ⟨_,_,rfl,_⟩:=r; rfl
  | ref _=>simp only [RV] at r; obtain ⟨_,_,rfl⟩:=r; rfl
  | tup _=>simp only [RV] at r; obtain ⟨_,_,rfl,_⟩:=r; rfl
  | exc _=>simp only [RV] at r; obtain ⟨_,rfl,_⟩:=r; rfl
theorem e_isN {j:Nat} {p2:Pos} (ha:PE X a (lE ct Ra E ea)) :
    PE X (.Compare a [.Is] [.Constant .none j p2] pos) (lE ct Ra E fun σ h=>(ea σ h).bind fun x h1=>.ok (.f (.bl (isNon x))) h1) ∧
    PT X (.Compare a [.Is] [.Constant .none j p2] pos) (lT ct Ra E (tst fun σ h=>(ea σ h).bind fun x h1=>.ok (.f (.bl (isNon x))) h1)) :=
  both_of (pe_cmp (pc_isN ha)) (pt_cmp (pc_isN ha)) fun σ H Q q=>by
    obtain ⟨μ,h,σs,rel,rst,ra,p⟩:=q
    refine lE.mk rel rst ra p fun m v μ1 h1 H1 ex rel1 rst1 rv p1=>?_
    rw [← non_rv rv]
    exact p1.now rel1 _ (rv_mkB _)
theorem e_notN {j:Nat} {p2:Pos} (ha:PE X a (lE ct Ra E ea)) :
    PE X (.Compare a [.IsNot] [.Constant .none j p2] pos) (lE ct Ra E fun σ h=>(ea σ h).bind fun x h1=>.ok (.f (.bl (!isNon x))) h1) ∧
    PT X (.Compare a [.IsNot] [.Constant .none j p2] pos) (lT ct Ra E (tst fun σ h=>(ea σ h).bind fun x h1=>.ok (.f (.bl (!isNon x))) h1)) :=
  both_of (pe_cmp (pc_notN ha)) (pt_cmp (pc_notN ha)) fun σ H Q q=>by
    obtain ⟨μ,h,σs,rel,rst,ra,p⟩:=q
    refine lE.mk rel rst ra p fun m v μ1 h1 H1 ex rel1 rst1 rv p1=>?_
    rw [← non_rv rv]
    exact p1.now rel1 _ (rv_mkB _)
theorem e_not (ha:PE X a (lE ct Ra E ea)) (ta:PT X a (lT ct Ra E (tst ea))) :
    PE X (.UnaryOp .Not a pos) (lE ct Ra E fun σ h=>(ea σ h).bind fun x h1=>opt (blOf x) fun k=>.ok (.f (.bl (!k))) h1) ∧
    PT X (.UnaryOp .Not a pos) (lT ct Ra E (tst fun σ h=>(ea σ h).bind fun x h1=>opt (blOf x) fun k=>.ok (.f (.bl (!k))) h1)):=by
  refine ⟨PE.imp (pe_not ha) fun σ H Q q=>?_,PT.imp (pt_not ta) fun σ H Q q=>?_⟩
  · obtain ⟨μ,h,σs,rel,rst,ra,p⟩:=q
    refine lE.mk rel rst ra p fun m v μ1 h1 H1 ex rel1 rst1 rv p1=>?_
    obtain ⟨k,e,p2⟩:=Po.opt p1
    have:=blOf_eq e; subst this
    exact ⟨k,rv_bl rv,p2.now rel1 _ (rv_mkB _)⟩
  · obtain ⟨μ,h,σs,rel,rst,ra,p⟩:=q
    refine ⟨μ,h,σs,rel,rst,ra,?_⟩
    dsimp only [tst] at p ⊢
    cases er:ea σs h with
    | stuck=>rw [er] at p; exact p
    | exc c h'=>rw [er] at p; exact p
    | ok x h' =>
      rw [er] at p
      simp only [R.bind_ok] at p ⊢
      cases eb:blOf x with
      | none=>rw [eb] at p; exact p
      | some k =>
        rw [eb] at p
        exact p
theorem e_ite (tc:PT X c (lT ct Ra E (tst ec))) (ha:PE X a (lE ct Ra E ea)) (hb:PE X b (lE ct Ra E eb)) :
    PE X (.IfExp c a b pos) (lE ct Ra E fun σ h=>(ec σ h).bind fun x h1=>opt (blOf x) fun k=>if k=true then ea σ h1 else eb σ h1) :=
  PE.imp (pe_ifExp tc ha hb) fun σ H Q q=>by
    obtain ⟨μ,h,σs,rel,rst,ra,p⟩:=q
    have p':Po ct E ((tst ec σs h).bind fun k h1=>if k=true then ea σs h1 else eb σs h1) μ h H (kV ct Q):=by
      dsimp only [tst] at p ⊢
      cases er:ec σs h with
      | stuck=>rw [er] at p; exact p
      | exc c h'=>rw [er] at p; exact p
      | ok x h' =>
        rw [er] at p
        simp only [R.bind_ok] at p ⊢
        cases eb:blOf x with
        | none=>rw [eb] at p; exact p
        | some k=>rw [eb] at p; exact p
    refine lT.mk rel rst ra p' fun k μ1 h1 H1 ex rel1 rst1 p1=>?_
    cases k with
    | true=>exact ⟨μ1,h1,σs,rel1,rst1,ra,p1⟩
    | false=>exact ⟨μ1,h1,σs,rel1,rst1,ra,p1⟩
theorem e_frz (ha:PE X a (lE ct Ra E ea)):PE X a (lE ct Ra E fun σ h=>(ea σ h).bind fun x h1=>frzV x h1):=PE.imp ha fun σ H Q q=>by
  obtain ⟨μ,h,σs,rel,rst,ra,p⟩:=q
  refine lE.mk rel rst ra p fun m v μ1 h1 H1 ex rel1 rst1 rv p1=>?_
  obtain ⟨x,h',ex',rel',rv',k⟩:=frz_ok rel1 rv p1
  exact k v rv'
theorem e_sub (hK:X.K=ct.K) (ha:PE X a (lE ct Ra E ea)) (hb:PE X b (lE ct Ra E eb)) (hp:plainE b=true) :
    PE X (.Subscript a b pos) (lE ct Ra E fun σ h=>(ea σ h).bind fun x h1=>(eb σ h1).bind fun y h2=>opt (seqOf h2 x) fun xs=>opt (intOf y) fun k=>opt (atM xs k) fun v=>.ok v h2) :=
  PE.imp (pe_ix (ixr_all (ct:=ct) hK) ha hb (ix_plain hp)) fun σ H Q q=>by
    obtain ⟨μ,h,σs,rel,rst,ra,p⟩:=q
    refine lE.mk rel rst ra p fun m v μ1 h1 H1 ex rel1 rst1 rv p1=>lE.mk rel1 rst1 ra p1 fun m2 v2 μ2 h2 H2 ex2 rel2 rst2 rv2 p2=>?_
    obtain ⟨xs,e1,p3⟩:=Po.opt p2
    obtain ⟨k,e2,p4⟩:=Po.opt p3
    obtain ⟨w,e3,p5⟩:=Po.opt p4
    have:=intOf_eq e2; subst this
    exact ⟨μ2,h2,m,k,xs,w,rel2,rv.ext ex2,rv_int rv2,e1,e3,p5.now rel2⟩
end
end
section
variable {ct:Tx} {X:Cx} {E:XK} {Pm:Prog} {n:Nat} {Ra:L2.St→Prop} {N:List Str} {sc:Scope}
noncomputable def Bo (ct:Tx) (X:Cx) (Ra:L2.St→Prop) (E:XK) (Pm:Prog) (n:Nat):List ME→List Expr→Prop
  | [],[]=>True
  | m::ms,e::es=>(plainE e=true∧PE X e (lE ct Ra E (evalE Pm (run Pm n) m))∧(okT m=true→PT X e (lT ct Ra E (tst (evalE Pm (run Pm n) m)))))∧Bo ct X Ra E Pm n ms es
  | _,_=>False
theorem Bo.pa:∀ {ms:List ME} {es:List Expr},Bo ct X Ra E Pm n ms es→PA X es (lA ct Ra E (evalEs Pm (run Pm n) ms))
  | [],[],_=>PA.imp pa_nil fun σ H Q q=>by
    obtain ⟨μ,h,σs,rel,rst,ra,p⟩:=q
    simp only [evalEs] at p
    exact p.now rel [] RVs.nil
  | [],_::_,b=>b.elim
  | _::_,[],b=>b.elim
  | m::ms,e::es,b=>PA.imp (pa_cons b.1.2.1 (Bo.pa b.2) (star_plain b.1.1)) fun σ H Q q=>by
    obtain ⟨μ,h,σs,rel,rst,ra,p⟩:=q
    simp only [evalEs] at p
    refine lE.mk rel rst ra p fun m' v μ1 h1 H1 ex rel1 rst1 rv p1=>?_
    refine lA.mk rel1 rst1 ra p1 fun ms' vs μ2 h2 H2 ex2 rel2 rst2 rvs p2=>?_
    exact p2.now rel2 _ (RVs.cons (rv.ext ex2) rvs)
theorem Bo.plain:∀ {ms:List ME} {es:List Expr},Bo ct X Ra E Pm n ms es→∀ e∈es,plainE e=true
  | [],[],_,e,he=>by simp at he
  | [],_::_,b,_,_=>b.elim
  | _::_,[],b,_,_=>b.elim
  | m::ms,e::es,b,x,hx=>by
    rcases List.mem_cons.mp hx with rfl | hx
    · exact b.1.1
    · exact Bo.plain b.2 x hx
theorem Bo.length:∀ {ms:List ME} {es:List Expr},Bo ct X Ra E Pm n ms es→ms.length=es.length
  | [],[],_=>rfl
  | [],_::_,b=>b.elim
  | _::_,[],b=>b.elim
  | m::ms,e::es,b=>by simp [Bo.length b.2]
theorem evalEs_len {W:String→List MV→MH→R MV}:∀ {ms:List ME} {σ:MSt} {h:MH} {xs:List MV} {h':MH},evalEs Pm W ms σ h=.ok xs h'→xs.length=ms.length
  | [],σ,h,xs,h',e=>by simp only [evalEs,R.ok.injEq] at e; simp [← e.1]
  | m::ms,σ,h,xs,h',e=>by
    simp only [evalEs] at e
    cases e1:evalE Pm W m σ h with
    | stuck=>rw [e1] at e; cases e
    | exc c h2=>rw [e1] at e; cases e
    | ok x h1 =>
      rw [e1] at e
      simp only [R.bind_ok] at e
      cases e2:evalEs Pm W ms σ h1 with
      | stuck=>rw [e2] at e; cases e
      | exc c h2=>rw [e2] at e; cases e
      | ok ys h2 =>
        rw [e2] at e
        simp only [R.bind_ok,R.ok.injEq] at e
        rw [← e.1,List.length_cons,List.length_cons,evalEs_len e2]
theorem e_and {pos:Pos}:∀ {ms:List ME} {es:List Expr},Bo ct X Ra E Pm n ms es→ms.all okT=true→PE X (.BoolOp .And es pos) (lE ct Ra E (evalAnd Pm (run Pm n) ms))∧PW X (.BoolOp .And es pos) (lT ct Ra E (tst (evalAnd Pm (run Pm n) ms)))
  | [],[],_,_=>⟨fun pins s σ H Q I q=>by
      obtain ⟨μ,h,σs,rel,rst,ra,p⟩:=q
      simp only [evalAnd] at p
      exact p.elim,fun wh pins s σ H Q I q=>by
      obtain ⟨μ,h,σs,rel,rst,ra,p⟩:=q
      simp only [tst,evalAnd] at p
      exact p.elim⟩
  | [],_::_,b,_=>b.elim
  | _::_,[],b,_=>b.elim
  | [m],[e],b,ht=>by
    simp at ht
    refine ⟨PE.imp (pe_one b.1.2.1) fun σ H Q q=>?_,PW.imp (pw_and1 (b.1.2.2 ht)) fun σ H Q q=>?_⟩
    · simpa only [evalAnd] using q
    · have:evalAnd Pm (run Pm n) [m]=evalE Pm (run Pm n) m:=by funext σ h; simp only [evalAnd]
      rw [this] at q; exact q
  | [m],_::_::_,b,_=>b.2.elim
  | _::_::_,[_],b,_=>b.2.elim
  | m::m'::ms,e::e'::es,b,ht=>by
    have ht':okT m=true∧(m'::ms).all okT=true:=by simpa using ht
    obtain ⟨i1,i2⟩:=e_and (ms:=m'::ms) (es:=e'::es) (pos:=pos) b.2 ht'.2
    refine ⟨PE.imp (pe_and b.1.2.1 i1) fun σ H Q q=>?_,PW.imp (pw_and (b.1.2.2 ht'.1) i2) fun σ H Q q=>?_⟩
    · obtain ⟨μ,h,σs,rel,rst,ra,p⟩:=q
      simp only [evalAnd] at p
      refine lE.mk rel rst ra p fun x v μ1 h1 H1 ex rel1 rst1 rv p1=>?_
      obtain ⟨k,ek,p2⟩:=Po.opt p1
      have:=blOf_eq ek; subst this
      refine ⟨k,rv_bl rv,?_⟩
      cases k with
      | true=>exact ⟨μ1,h1,σs,rel1,rst1,ra,p2⟩
      | false=>exact p2.now rel1 _ (rv_mkB _)
    · obtain ⟨μ,h,σs,rel,rst,ra,p⟩:=q
      have p':Po ct E ((tst (evalE Pm (run Pm n) m) σs h).bind fun k h1=>if k=true then tst (evalAnd Pm (run Pm n) (m'::ms)) σs h1 else .ok false h1) μ h H (fun b _ _ H'=>Q b H'):=by
        simp only [tst,evalAnd] at p ⊢
        cases er:evalE Pm (run Pm n) m σs h with
        | stuck=>rw [er] at p; exact p
        | exc c h'=>rw [er] at p; exact p
        | ok x h' =>
          rw [er] at p
          simp only [R.bind_ok] at p ⊢
          cases eb:blOf x with
          | none=>rw [eb] at p; exact p
          | some k =>
            rw [eb] at p
            cases k with
            | true=>exact p
            | false=>exact p
      refine lT.mk rel rst ra p' fun k μ1 h1 H1 ex rel1 rst1 p1=>?_
      cases k with
      | true=>exact ⟨μ1,h1,σs,rel1,rst1,ra,p1⟩
      | false=>exact p1.now rel1
theorem e_or {pos:Pos}:∀ {ms:List ME} {es:List Expr},Bo ct X Ra E Pm n ms es→ms.all okT=true→PE X (.BoolOp .Or es pos) (lE ct Ra E (evalOr Pm (run Pm n) ms))∧PW X (.BoolOp .Or es pos) (lT ct Ra E (tst (evalOr Pm (run Pm n) ms)))
  | [],[],_,_=>⟨fun pins s σ H Q I q=>by
      obtain ⟨μ,h,σs,rel,rst,ra,p⟩:=q
      simp only [evalOr] at p
      exact p.elim,fun wh pins s σ H Q I q=>by
      obtain ⟨μ,h,σs,rel,rst,ra,p⟩:=q
      simp only [tst,evalOr] at p
      exact p.elim⟩
  | [],_::_,b,_=>b.elim
  | _::_,[],b,_=>b.elim
  | [m],[e],b,ht=>by
    simp at ht
    refine ⟨PE.imp (pe_one b.1.2.1) fun σ H Q q=>?_,PW.imp (pw_or1 (b.1.2.2 ht)) fun σ H Q q=>?_⟩
    · simpa only [evalOr] using q
    · have:evalOr Pm (run Pm n) [m]=evalE Pm (run Pm n) m:=by funext σ h; simp only [evalOr]
      rw [this] at q; exact q
  | [m],_::_::_,b,_=>b.2.elim
  | _::_::_,[_],b,_=>b.2.elim
  | m::m'::ms,e::e'::es,b,ht=>by
    have ht':okT m=true∧(m'::ms).all okT=true:=by simpa using ht
    obtain ⟨i1,i2⟩:=e_or (ms:=m'::ms) (es:=e'::es) (pos:=pos) b.2 ht'.2
    refine ⟨PE.imp (pe_or b.1.2.1 i1) fun σ H Q q=>?_,PW.imp (pw_or (b.1.2.2 ht'.1) i2) fun σ H Q q=>?_⟩
    · obtain ⟨μ,h,σs,rel,rst,ra,p⟩:=q
      simp only [evalOr] at p
      refine lE.mk rel rst ra p fun x v μ1 h1 H1 ex rel1 rst1 rv p1=>?_
      obtain ⟨k,ek,p2⟩:=Po.opt p1
      have:=blOf_eq ek; subst this
      refine ⟨k,rv_bl rv,?_⟩
      cases k with
      | false=>exact ⟨μ1,h1,σs,rel1,rst1,ra,p2⟩
      | true=>exact p2.now rel1 _ (rv_mkB _)
    · obtain ⟨μ,h,σs,rel,rst,ra,p⟩:=q
      have p':Po ct E ((tst (evalE Pm (run Pm n) m) σs h).bind fun k h1=>if k=true then .ok true h1 else tst (evalOr Pm (run Pm n) (m'::ms)) σs h1) μ h H (fun b _ _ H'=>Q b H'):=by
        simp only [tst,evalOr] at p ⊢
        cases er:evalE Pm (run Pm n) m σs h with
        | stuck=>rw [er] at p; exact p
        | exc c h'=>rw [er] at p; exact p
        | ok x h' =>
          rw [er] at p
          simp only [R.bind_ok] at p ⊢
          cases eb:blOf x with
          | none=>rw [eb] at p; exact p
          | some k =>
            rw [eb] at p
            cases k with
            | true=>exact p
            | false=>exact p
      refine lT.mk rel rst ra p' fun k μ1 h1 H1 ex rel1 rst1 p1=>?_
      cases k with
      | false=>exact ⟨μ1,h1,σs,rel1,rst1,ra,p1⟩
      | true=>exact p1.now rel1
section
variable {ea:MSt→MH→R MV} {es:List Expr} {ev:MSt→MH→R (List MV)} {a:Expr} {pos:Pos}
theorem e_tup {k:Nat} (ha:PA X es (lA ct Ra E ev)) (hl:∀ σ h xs h',ev σ h=.ok xs h'→xs.length≤sizeLine):PE X (.Tuple es k pos) (lE ct Ra E fun σ h=>(ev σ h).bind fun xs h1=>.ok (mkTup xs) h1):=PE.imp (pe_tup ha) fun σ H Q q=>by
  obtain ⟨μ,h,σs,rel,rst,ra,p⟩:=q
  refine ⟨μ,h,σs,rel,rst,ra,?_⟩
  dsimp only at p
  cases er:ev σs h with
  | stuck=>rw [er] at p; exact p
  | exc c h'=>rw [er] at p; exact p
  | ok xs h' =>
    rw [er] at p
    intro μ1 H1 ex rel1 vs rvs
    exact ⟨by rw [rvs.length]; exact hl _ _ _ _ er,newT_ok rel1 rvs (Po.start ex p)⟩
theorem e_lst (fz:Bool) (ha:PA X es (lA ct Ra E ev)) (hl:∀ σ h xs h',ev σ h=.ok xs h'→xs.length≤sizeLine):PE X (.List es pos) (lE ct Ra E fun σ h=>(ev σ h).bind fun xs h1=>newL fz xs h1):=PE.imp (pe_lst ha) fun σ H Q q=>by
  obtain ⟨μ,h,σs,rel,rst,ra,p⟩:=q
  refine ⟨μ,h,σs,rel,rst,ra,?_⟩
  dsimp only at p
  cases er:ev σs h with
  | stuck=>rw [er] at p; exact p
  | exc c h'=>rw [er] at p; exact p
  | ok xs h' =>
    rw [er] at p
    intro μ1 H1 ex rel1 vs rvs
    exact ⟨by rw [rvs.length]; exact hl _ _ _ _ er,newL_ok rel1 rvs (Po.start ex p)⟩
theorem PO.imp {e:Option Expr} {t t':TO} (p:PO X e t) (k:∀ σ H Q,t' σ H Q→t σ H Q):PO X e t':=fun pins s σ H Q I h=>p pins s σ H Q I (k σ H Q h)
theorem e_slice (hK:X.K=ct.K) (fz:Bool) {lo hi:Option Expr} {el eh:MSt→MH→R (Option Int)} {p2:Pos} (ha:PE X a (lE ct Ra E ea)) (hl:PO X lo (lO ct Ra E el)) (hh:PO X hi (lO ct Ra E eh)) :
    PE X (.Subscript a (.Slice lo hi none p2) pos) (lE ct Ra E fun σ h=>(ea σ h).bind fun x h1=>(el σ h1).bind fun l h2=>(eh σ h2).bind fun u h3=>sliceV fz x l u h3) :=
  PE.imp (pe_slice (slr_all (ct:=ct) (E:=E) hK fz) ha hl hh) fun σ H Q q=>by
    obtain ⟨μ,h,σs,rel,rst,ra,p⟩:=q
    refine lE.mk rel rst ra p fun m v μ1 h1 H1 ex rel1 rst1 rv p1=>?_
    refine lO.mk rel1 rst1 ra p1 fun l μ2 h2 H2 ex2 rel2 rst2 p2=>?_
    refine lO.mk rel2 rst2 ra p2 fun u μ3 h3 H3 ex3 rel3 rst3 p3=>?_
    exact ⟨μ3,h3,m,rel3,(rv.ext ex2).ext ex3,p3⟩
theorem look_rf {L:Addr→Prop} {H:Hp} {f:String}:∀ {ns:List String} {xs:List FV} {fs:List (Str×V)} {x:FV},fs.map Prod.fst=ns.map Str.ofString→RFs ct L H xs (fs.map Prod.snd)→lookF f ns xs=some x→∃ v,fs.lookup (Str.ofString f)=some v∧RF ct L H x v
  | [],_,_,_,_,_,e=>by simp [lookF] at e
  | _::_,[],_,_,_,_,e=>by simp [lookF] at e
  | m::ns,y::xs,fs,x,h1,h2,e=>by
    cases fs with
    | nil=>simp at h1
    | cons p fs =>
      obtain ⟨k,u⟩:=p
      simp only [List.map_cons,List.cons.injEq] at h1
      simp only [List.map_cons,RFs] at h2
      obtain ⟨v,r,hvr,r1,r2⟩:=h2
      simp only [List.cons.injEq] at hvr
      obtain ⟨rfl,rfl⟩:=hvr
      simp only [lookF] at e
      by_cases hf:f=m
      · subst hf
        simp at e; subst e
        exact ⟨u,by simp [List.lookup_cons,h1.1],r1⟩
      · rw [if_neg hf] at e
        obtain ⟨w,q1,q2⟩:=look_rf h1.2 r2 e
        refine ⟨w,?_,q2⟩
        have:(Str.ofString f == k)=false:=by
          rw [h1.1]
          exact beq_false_of_ne fun z=>hf (ofString_inj z)
        simp [List.lookup_cons,this,q1]
theorem look_rv {μ:List Addr} {L:Addr→Prop} {H:Hp} {f:String}:∀ {fs:List (String×MV)} {gs:List (Str×V)} {m:MV},gs.map Prod.fst=fs.map (fun p=>Str.ofString p.1)→RVs ct μ L H (fs.map Prod.snd) (gs.map Prod.snd)→fs.lookup f=some m→∃ v,gs.lookup (Str.ofString f)=some v∧RV ct μ L H m v
  | [],_,_,_,_,e=>by simp at e
  | (k,y)::fs,gs,m,h1,h2,e=>by
    cases gs with
    | nil=>simp at h1
    | cons p gs =>
      obtain ⟨k',u⟩:=p
      simp only [List.map_cons,List.cons.injEq] at h1
      simp only [List.map_cons,RVs] at h2
      obtain ⟨v,r,hvr,r1,r2⟩:=h2
      simp only [List.cons.injEq] at hvr
      obtain ⟨rfl,rfl⟩:=hvr
      by_cases hf:f=k
      · subst hf
        simp [List.lookup_cons] at e; subst e
        exact ⟨u,by simp [List.lookup_cons,h1.1],r1⟩
      · have hb:(f == k)=false:=beq_false_of_ne hf
        simp [List.lookup_cons,hb] at e
        obtain ⟨w,q1,q2⟩:=look_rv h1.2 r2 e
        refine ⟨w,?_,q2⟩
        have:(Str.ofString f == k')=false:=by
          rw [h1.1]
          exact beq_false_of_ne fun z=>hf (ofString_inj z)
        simp [List.lookup_cons,this,q1]
theorem Rel.obj {μ:List Addr} {h:MH} {H:Hp} (rel:Rel ct μ h H) {i:Nat} {c:String} {fs:List (String×MV)} (e:h[i]?=some (.obj c fs)):∃ b dx gs,μ[i]?=some b∧H b=some (.ins (ct c) dx gs)∧gs.map Prod.fst=fs.map (fun p=>Str.ofString p.1)∧RVs ct μ (Liv μ h) H (fs.map Prod.snd) (gs.map Prod.snd):=by
  have hi:i < μ.length:=by rw [rel.len]; exact (List.getElem?_eq_some_iff.mp e).1
  obtain ⟨dx,gs,q1,q2,q3⟩:=rel.cells i μ[i] _ (by simp [hi]) e
  exact ⟨_,dx,gs,by simp [hi],q1,q2,q3⟩
set_option tactic.hygienic true in
theorem e_fld {f:String} (T:Txt X.prog X.w X.K X.mg X.base Pm ct n) (ha:PE X a (lE ct Ra E ea)) (hn:notCall0 a=true):PE X (.Attribute a (Str.ofString f) pos) (lE ct Ra E fun σ h=>(ea σ h).bind fun x h1=>opt (fldV Pm.fok f x h1) fun v=>.ok v h1) :=
  PE.imp (k_fld X.K ha (base_plain hn)) fun σ H Q q=>by
    obtain (⟨μ,h,σs,rel,rst,ra,p⟩):=q
    refine lE.mk rel rst ra p fun m v μ1 h1 H1 ex rel1 rst1 rv p1=>?_
    obtain (⟨w,e,p2⟩):=Po.opt p1
    unfold fldV at e
    split at e
    next c ns xs =>
      split at e
      next ok =>
        simp only [Option.map_eq_some_iff] at e
        obtain (⟨x,e1,rfl⟩):=e
        simp only [RV,RF] at rv
        obtain (⟨b,dx,fs,rfl,nl,hb,q1,q2⟩):=rv
        obtain (⟨u,e2,ru⟩):=look_rf q1 q2 e1
        obtain (⟨t1,t2⟩):=T.fok c f ok
        exact ⟨b,ct c,dx,fs,u,rfl,hb,t1,t2,e2,p2.now rel1 u (by simp only [RV]; exact ru)⟩
      next=>cases e
    next i =>
      split at e
      next c fs ec =>
        split at e
        next ok =>
          simp only [RV] at rv
          obtain (⟨b,eb,rfl⟩):=rv
          obtain (⟨b',dx,gs,eb',hb,q1,q2⟩):=rel1.obj ec
          rw [eb] at eb'; cases eb'
          obtain (⟨u,e2,ru⟩):=look_rv q1 q2 e
          obtain (⟨t1,t2⟩):=T.fok c f ok
          exact ⟨b,ct c,dx,gs,u,rfl,hb,t1,t2,e2,p2.now rel1 u ru⟩
        next=>cases e
      next=>cases e
    next=>cases e
end
end
section
variable {ct:Tx} {X:Cx} {E:XK} {Pm:Prog} {n:Nat} {Ra:L2.St→Prop} {N:List Str} {sc:Scope}
section
variable {ea:MSt→MH→R MV} {v:Expr} {es:List Expr} {ev:MSt→MH→R (List MV)} {a:Expr} {p pos:Pos}
theorem e_call {f:String} {d:MDef} (c:Cc X Pm ct n Ra E N sc) (hd:Pm.defs f=some d) (hdot:f.toList.contains '.'=false) (hg:gl sc (Str.ofString f)=true) (ha:PA X (v::es) (lA ct Ra E ev)) (hpl:∀ e∈v::es,plainE e=true) :
    PE X (.Call (.Name (Str.ofString f) p) (v::es) [] pos) (lE ct Ra E fun σ h=>(ev σ h).bind fun xs h1=>run Pm n f xs h1):=by
  obtain ⟨g1,g2,g3⟩:=gl_of c.sc hg
  obtain ⟨ps,D⟩:=c.txt.defs f d hd hdot
  intro pins s σ H Q I q
  obtain ⟨μ,h,σs,rel,rst,ra,p⟩:=q
  refine pe_callDS (σ0:=σ) D (c.room.mono (by lia)) g1 (c.pas σ ra) ha g2 (star_plain (hpl v (by simp))) (back_plain fun e he=>hpl e (by simp [he])) pins s σ H Q I ⟨rfl,?_⟩
  refine lA.mk rel rst ra p fun ms vs μ1 h1 H1 ex rel1 rst1 rvs p1=>?_
  exact ⟨μ1,h1,ms,rel1,by simpa using rvs,p1⟩
theorem e_make (fz:Bool) {cn f:String} (c:Cc X Pm ct n Ra E N sc) (hi:Pm.meths cn "__init__"=some f) (hg:gl sc (Str.ofString cn)=true) (ha:PA X (v::es) (lA ct Ra E ev)) (hpl:∀ e∈v::es,plainE e=true) :
    PE X (.Call (.Name (Str.ofString cn) p) (v::es) [] pos) (lE ct Ra E fun σ h=>(ev σ h).bind fun xs h1=>makeV Pm (run Pm n) fz cn xs h1):=by
  obtain ⟨g1,g2,g3⟩:=gl_of c.sc hg
  obtain ⟨ps,D⟩:=c.txt.inits cn f hi
  intro pins s σ H Q I q
  obtain ⟨μ,h,σs,rel,rst,ra,p⟩:=q
  refine pe_makeCS (σ0:=σ) D c.room g1 (c.pas σ ra) ha g2 (star_plain (hpl v (by simp))) (back_plain fun e he=>hpl e (by simp [he])) pins s σ H Q I ⟨rfl,?_⟩
  refine lA.mk rel rst ra p fun ms vs μ1 h1 H1 ex rel1 rst1 rvs p1=>?_
  intro x dx hx hdx hne
  have hx':upd H1 dx (.own x) x=none:=by rw [upd_ne (Ne.symm hne)]; exact hx
  have ex1:=Ext.new rel1 hdx (.own x)
  have rel2:=rel1.new hdx (.own x)
  have ex2:=Ext.cell rel2 hx' (.obj cn []) (.ins (ct cn) dx [])
  have rel3:Rel ct (μ1++[x]) (h1++[.obj cn []]) (upd (upd H1 dx (.own x)) x (.ins (ct cn) dx [])):=rel2.cell hx' ⟨dx,[],upd_same,rfl,RVs.nil⟩
  have ex3:=ex1.trans ex2
  refine ⟨μ1++[x],h1++[.obj cn []],.ref h1.length::ms,rel3,RVs.cons ?_ (by simpa using rvs.ext ex3),?_⟩
  · simp only [RV]
    exact ⟨x,by rw [← rel1.len]; simp,rfl⟩
  · unfold makeV at p1
    rw [hi] at p1
    dsimp only at p1
    cases er:run Pm n f (.ref h1.length::ms) (h1++[.obj cn []]) with
    | stuck=>rw [er] at p1; exact p1.elim
    | exc c h2=>rw [er] at p1; exact fun μ2 H2 ex4 rel4=>p1 μ2 H2 (ex3.trans ex4) rel4
    | ok m h2 =>
      rw [er] at p1
      simp only [R.bind_ok] at p1
      intro μ2 H2 ex4 rel4 u ru
      have hnon:isNon m=true:=by
        cases em:isNon m with
        | true=>rfl
        | false=>rw [em] at p1; simp only [if_true] at p1; exact p1.elim
      rw [hnon] at p1
      simp only [Bool.true_eq_false,if_false] at p1
      rw [non_rv ru] at hnon
      refine ⟨of_decide_eq_true hnon,?_⟩
      have ext:=ex3.trans ex4
      obtain ⟨ν,eν⟩:=ex4.pre
      rw [List.append_assoc] at eν
      subst eν
      have hx2:(μ1++([x]++ν))[h1.length]?=some x:=by rw [← rel1.len]; simp
      cases fz with
      | false=>exact p1 _ H2 ext rel4 _ (by simp only [RV]; exact ⟨x,hx2,rfl⟩)
      | true =>
        dsimp only at p1
        split at p1
        next c' fs ec =>
          obtain ⟨ys,ey,p4⟩:=Po.opt p1
          split at p4
          next t =>
            obtain ⟨b,dx',gs,eb,hb,q1,q2⟩:=rel4.obj ec
            rw [hx2] at eb; cases eb
            have nx:x∉μ1:=rel1.fresh hx
            refine p4 μ1 H2 (Ext.cut rel1.len ext) (rel1.cut t rel4) (.ref x) ?_
            simp only [RV,RF]
            refine ⟨x,dx',gs,rfl,fun l=>?_,hb,?_,?_⟩
            · obtain ⟨i,_,e1,_,_⟩:=l
              exact nx (List.mem_of_getElem? e1)
            · rw [q1,List.map_map]; rfl
            · exact RFs.to ⟨fun _ _ e _=>e,fun b _ _ nl l=>nl (Liv.cut rel1.len l)⟩ (RVs.toF ey q2)
          next=>exact p4.elim
        next=>exact p1.elim
theorem e_bltF (fz:Bool) {id:String} (c:Cc X Pm ct n Ra E N sc) (hx:id∈fnNames) (hg:gl sc (Str.ofString id)=true) (hb:bootBuiltins (Str.ofString id)=some (.builtin id)) (hr:CallR X (.builtin id) (rB ct E fz id)) (ha:PA X (v::es) (lA ct Ra E ev)) (hpl:∀ e∈v::es,plainE e=true) :
    PE X (.Call (.Name (Str.ofString id) p) (v::es) [] pos) (lE ct Ra E fun σ h=>(ev σ h).bind fun xs h1=>bltV fz id xs h1):=by
  obtain ⟨g1,g2,g3⟩:=gl_of c.sc hg
  have hm:=c.txt.blts id (by simp [hx])
  refine PE.imp (pe_callB hr g1 hm hb ha g3 g2 (star_plain (hpl v (by simp))) (back_plain fun e he=>hpl e (by simp [he]))) fun σ H Q q=>?_
  obtain ⟨μ,h,σs,rel,rst,ra,p⟩:=q
  exact lA.mk rel rst ra p fun ms vs μ1 h1 H1 ex rel1 rst1 rvs p1=>⟨μ1,h1,ms,rel1,rvs,p1⟩
theorem e_bltT (fz:Bool) {id:String} (c:Cc X Pm ct n Ra E N sc) (hx:id∈tyNames) (hg:gl sc (Str.ofString id)=true) (hb:bootBuiltins (Str.ofString id)=some (.type id)) (hr:CallR X (.type id) (rB ct E fz id)) (ha:PA X (v::es) (lA ct Ra E ev)) (hpl:∀ e∈v::es,plainE e=true) :
    PE X (.Call (.Name (Str.ofString id) p) (v::es) [] pos) (lE ct Ra E fun σ h=>(ev σ h).bind fun xs h1=>bltV fz id xs h1):=by
  obtain ⟨g1,g2,g3⟩:=gl_of c.sc hg
  have hm:=c.txt.blts id (by simp [hx])
  refine PE.imp (pe_callTy hr g1 hm hb ha g3 g2 (star_plain (hpl v (by simp))) (back_plain fun e he=>hpl e (by simp [he]))) fun σ H Q q=>?_
  obtain ⟨μ,h,σs,rel,rst,ra,p⟩:=q
  exact lA.mk rel rst ra p fun ms vs μ1 h1 H1 ex rel1 rst1 rvs p1=>⟨μ1,h1,ms,rel1,rvs,p1⟩
theorem e_blt (fz:Bool) {id:String} (c:Cc X Pm ct n Ra E N sc) (hx:id∈fnNames∨id∈tyNames) (hg:gl sc (Str.ofString id)=true) (ha:PA X (v::es) (lA ct Ra E ev)) (hpl:∀ e∈v::es,plainE e=true) :
    PE X (.Call (.Name (Str.ofString id) p) (v::es) [] pos) (lE ct Ra E fun σ h=>(ev σ h).bind fun xs h1=>bltV fz id xs h1):=by
  rcases hx with hx | hx
  · have hx':=hx
    simp only [fnNames,List.mem_cons,List.not_mem_nil,or_false] at hx'
    rcases hx' with rfl | rfl | rfl | rfl | rfl
    · exact e_bltF fz c hx hg (by decide +kernel) (cb_len c.hK fz) ha hpl
    · exact e_bltF fz c hx hg (by decide +kernel) (cb_all c.hK fz c.calm) ha hpl
    · exact e_bltF fz c hx hg (by decide +kernel) (cb_min c.hK fz c.calm) ha hpl
    · exact e_bltF fz c hx hg (by decide +kernel) (cb_max c.hK fz c.calm) ha hpl
    · exact e_bltF fz c hx hg (by decide +kernel) (cb_abs fz) ha hpl
  · have hx':=hx
    simp only [tyNames,List.mem_cons,List.not_mem_nil,or_false] at hx'
    rcases hx' with rfl
    · exact e_bltT fz c hx hg (by decide +kernel) (cb_tuple c.hK fz) ha hpl
theorem isT_boot {t:String} (h:t∈isTys):bootBuiltins (Str.ofString t)=some (.type t):=by
  simp only [isTys,List.mem_cons,List.not_mem_nil,or_false] at h
  rcases h with rfl | rfl | rfl | rfl | rfl | rfl <;> decide +kernel
end
end
noncomputable def bb (T U:String):Bool:=decide (U=T) || (decide (T="bool")&&decide (U="int"))
theorem kit_bb {K:PySem.W.Frag} {T U:String} (h:T∈["NoneType","bool","int","str","list","tuple"]) (h':U∈isTys):PySem.W.kitOne K (.type T) (.type U)=some (bb T U):=by
  simp only [isTys,List.mem_cons,List.not_mem_nil,or_false] at h h'
  rcases h with rfl | rfl | rfl | rfl | rfl | rfl <;> rcases h' with rfl | rfl | rfl | rfl | rfl | rfl <;> rfl
section
variable {ct:Tx} {X:Cx} {E:XK} {Pm:Prog} {n:Nat} {Ra:L2.St→Prop} {N:List Str} {sc:Scope}
noncomputable def kindF (h:MH):MV→Option String
  | .f .non=>some "NoneType"
  | .f (.bl _)=>some "bool"
  | .f (.int _)=>some "int"
  | .f (.str _)=>some "str"
  | .f (.tup _)=>some "tuple"
  | .f (.lst _)=>some "list"
  | .tup _=>some "tuple"
  | .ref a=>match h[a]? with
    | some (.lst _)=>some "list"
    | _=>none
  | _=>none
theorem kind_mem {h:MH} {m:MV} {T:String} (e:kindF h m=some T):T∈["NoneType","bool","int","str","list","tuple"]:=by
  unfold kindF at e
  split at e
  all_goals first | (cases e; simp; done) | skip
  · split at e
    next=>cases e; simp
    next=>cases e
  · cases e
set_option tactic.hygienic true in
theorem kind_ty {K:PySem.W.Frag} {μ:List Addr} {h:MH} {H:Hp} {m:MV} {v:V} {T:String} (rel:Rel ct μ h H) (e:kindF h m=some T) (r:RV ct μ (Liv μ h) H m v):TyOf K H v (.type T):=by
  unfold kindF at e
  split at e
  next=>cases e; simp only [RV,RF] at r; subst r; exact .non
  next=>cases e; simp only [RV,RF] at r; subst r; exact .bl _
  next=>cases e; simp only [RV,RF] at r; subst r; exact .int _
  next=>cases e; simp only [RV,RF] at r; subst r; exact .str _
  next=>cases e; simp only [RV,RF] at r; obtain (⟨_,_,rfl,_,hb,_⟩):=r; exact .tup hb
  next =>
    cases e; simp only [RV,RF] at r
    obtain (⟨_,_,rfl,_,hb,_⟩):=r
    rcases hb with hb | ⟨o,hb⟩
    · exact .lst hb
    · exact .frz hb
  next=>cases e; simp only [RV] at r; obtain (⟨_,_,rfl,_,hb,_⟩):=r; exact .tup hb
  next i =>
    split at e
    next xs q =>
      cases e
      simp only [RV] at r
      obtain (⟨b,eb,rfl⟩):=r
      obtain (⟨b',vs,eb',hb,_⟩):=rel.lst (show cellL h i=some xs by unfold cellL; rw [q])
      rw [eb] at eb'; cases eb'
      exact .lst hb
    next=>cases e
  next=>cases e
set_option tactic.hygienic true in
theorem kind_is {subs:String→String→Option Bool} {h:MH} {m:MV} {t T:String} {b:Bool} (e:kindF h m=some T) (q:isIV subs h m t=some b) (hn:t≠"NoneType"):b=bb T t:=by
  unfold kindF at e
  split at e
  next=>cases e; cases q; simp [bb,hn]
  next=>cases e; cases q; simp [bb]
  next=>cases e; cases q; simp [bb]
  next=>cases e; cases q; simp [bb]
  next=>cases e; cases q; simp [bb]
  next=>cases e; cases q; simp [bb]
  next=>cases e; cases q; simp [bb]
  next i =>
    split at e
    next xs w =>
      cases e
      simp only [isIV,w,Option.some.injEq] at q
      rw [← q]; simp [bb]
    next=>cases e
  next=>cases e
set_option tactic.hygienic true in
theorem isI_ok {μ:List Addr} {h:MH} {H:Hp} {m:MV} {v:V} {t:String} {b:Bool} (T:Txt X.prog X.w X.K X.mg X.base Pm ct n) (rel:Rel ct μ h H) (r:RV ct μ (Liv μ h) H m v) (q:isIV Pm.subs h m t=some b) (ht:isTys.contains t=true∨(Pm.subs t t).isSome=true) :
    ∃ tv,TyOf X.K H v tv∧PySem.W.kitOne X.K tv (if isTys.contains t=true then .type t else .ref (ct t))=some b:=by
  cases ek:kindF h m with
  | some Tn =>
    refine ⟨.type Tn,kind_ty rel ek r,?_⟩
    by_cases hb:isTys.contains t=true
    · rw [if_pos hb]
      have hm:t∈isTys:=by simpa using hb
      have hn:t≠"NoneType":=by
        rintro rfl
        simp [isTys] at hm
      rw [kind_is ek q hn]
      exact kit_bb (kind_mem ek) hm
    · rw [if_neg hb]
      have hb':isTys.contains t=false:=by simpa using hb
      obtain ⟨b0,e0⟩:=Option.isSome_iff_exists.mp (ht.resolve_left hb)
      have hk:=T.tyC t t b0 e0 hb' Tn (kind_mem ek)
      rw [hk]
      have hm:t∉isTys:=by simpa using hb'
      simp only [isTys,List.mem_cons,List.not_mem_nil,or_false,not_or] at hm
      unfold kindF at ek
      split at ek
      next=>cases ek; cases q; rfl
      next=>cases ek; cases q; simp [hm]
      next=>cases ek; cases q; simp [hm]
      next=>cases ek; cases q; simp [hm]
      next=>cases ek; cases q; simp [hm]
      next=>cases ek; cases q; simp [hm]
      next=>cases ek; cases q; simp [hm]
      next i =>
        split at ek
        next xs w =>
          simp only [isIV,w,Option.some.injEq] at q
          rw [← q]; simp [hm]
        next=>cases ek
      next=>cases ek
  | none =>
    have obj:∃ c a dx fs,v=.ref a∧H a=some (.ins (ct c) dx fs)∧Pm.subs c t=some b:=by
      cases m with
      | f x =>
        cases x with
        | obj c ns vs =>
          simp only [RV,RF] at r
          obtain ⟨a,dx,fs,rfl,_,hb,_⟩:=r
          exact ⟨c,a,dx,fs,rfl,hb,q⟩
        | scr _=>cases q
        | tab _=>cases q
        | msk _=>cases q
        | _=>simp [kindF] at ek
      | tup _=>simp [kindF] at ek
      | exc _=>cases q
      | ref i =>
        simp only [isIV] at q
        split at q
        next xs w=>simp [kindF,w] at ek
        next c fs w =>
          obtain ⟨a,dx,gs,ea,hb,_⟩:=rel.obj w
          simp only [RV] at r
          obtain ⟨a',ea',rfl⟩:=r
          rw [ea] at ea'; cases ea'
          exact ⟨c,a,dx,gs,rfl,hb,q⟩
        next=>cases q
    obtain ⟨c,a,dx,fs,rfl,hb,q⟩:=obj
    have C:=T.cls c t b q
    refine ⟨.ref (ct c),.ins hb C.cl C.ha C.hn C.tk C.hm,?_⟩
    by_cases hb:isTys.contains t=true
    · rw [if_pos hb]; exact T.subT c t b q hb
    · rw [if_neg hb]; exact (T.subC c t b q (by simpa using hb)).2
section
variable {ea:MSt→MH→R MV} {v:Expr} {es:List Expr} {ev:MSt→MH→R (List MV)} {a:Expr} {p p2 pos:Pos}
theorem e_isI {t:String} (c:Cc X Pm ct n Ra E N sc) (ht:isTys.contains t=true∨(Pm.subs t t).isSome=true) (hg:gl sc "isinstance"=true) (hgt:gl sc (Str.ofString t)=true) (ha:PE X a (lE ct Ra E ea)) (hp:plainE a=true) :
    PE X (.Call (.Name "isinstance" p) [a,.Name (Str.ofString t) p2] [] pos) (lE ct Ra E fun σ h=>(ea σ h).bind fun x h1=>opt (isIV Pm.subs h1 x t) fun k=>.ok (.f (.bl k)) h1):=by
  obtain ⟨g1,g2,g3⟩:=gl_of c.sc hg
  obtain ⟨k1,k2,k3⟩:=gl_of c.sc hgt
  have hm:X.mg "isinstance"=none:=c.txt.blts "isinstance" (by simp)
  have tyE:∃ cv,clsV cv=some (if isTys.contains t=true then .type t else .ref (ct t))∧PE X (.Name (Str.ofString t) p2) (tC cv):=by
    by_cases hb:isTys.contains t=true
    · rw [if_pos hb]
      have hm':t∈isTys:=by simpa using hb
      exact ⟨.ty t,rfl,pe_bltn (v:=.ty t) k1 (c.txt.blts t (by simp [hm'])) (isT_boot hm') rfl k3 k2⟩
    · rw [if_neg hb]
      obtain ⟨b0,e0⟩:=Option.isSome_iff_exists.mp (ht.resolve_left hb)
      exact ⟨.ref (ct t),rfl,pe_glob (v:=.ref (ct t)) k1 (c.txt.subC t t b0 e0 (by simpa using hb)).1 rfl k2⟩
  obtain ⟨cv,ecv,pe⟩:=tyE
  refine PE.imp (pe_callB (k_isi X.K) g1 hm boot_isinstance (pa_cons ha (pa_cons pe pa_nil (by rfl)) (star_plain hp)) g3 g2 (star_plain hp) (by rfl)) fun σ H Q q=>?_
  obtain ⟨μ,h,σs,rel,rst,ra,p⟩:=q
  refine lE.mk rel rst ra p fun m w μ1 h1 H1 ex rel1 rst1 rv p1=>?_
  obtain ⟨k,e,p2⟩:=Po.opt p1
  obtain ⟨tv,ty,kit⟩:=isI_ok c.txt rel1 rv e ht
  exact ⟨w,cv,tv,_,k,rfl,ecv,ty,kit,p2.now rel1 _ (rv_mkB _)⟩
theorem lmC_ty {K:PySem.W.Frag} {mo:MV} {xs:List MV} {μ:List Addr} {h:MH} {H:Hp} {x:V} (rel:Rel ct μ h H) (r:RV ct μ (Liv μ h) H mo x) (e:lmC mo h=some xs):tyV K "list" x H:=by
  cases mo with
  | ref i =>
    obtain ⟨b,vs,e1,e2,q⟩:=rel.lst (show cellL h i=some xs from e)
    simp only [RV] at r
    obtain ⟨b',e3,rfl⟩:=r
    rw [e1] at e3; cases e3
    exact .inl ⟨rfl,vs,SqL.of e2⟩
  | f _=>cases e
  | tup _=>cases e
  | exc _=>cases e
theorem few_plain {env : Env} {cp : Pos} {es : List Expr} (h : ∀ e ∈ es, plainE e = true) (hl : es.length < 30) : ((backTo cp (starEach es env)).all (fun x => !x.1) && (backToKw cp (keywordEach [] env)).all (fun x => x.1.isSome)
      && decide (es.length + ([]:List Keyword).length + (if ([]:List Keyword).isEmpty then 0 else 1) < 30))=true:=by
  rw [stars_plain h]
  have h1:(backTo cp (es.map fun e=>(false,eval e env))).all (fun x=>!x.1)=true:=by
    unfold backTo
    rw [List.map_map,List.all_map]
    induction es with
    | nil=>rfl
    | cons e es ih=>simp [Function.comp]
  rw [h1]
  simp [keywordEach,backToKw]
  exact hl
theorem e_lm1 {m id:String} {ap cp:Pos} (slot:Slot "list" (Str.ofString m) id) (hty:typeOf (.builtin id)=pure (.type "method_descriptor")) (hr:MtR X id (rLm ct E m)) (ho:PE X a (lE ct Ra E ea)) (hn:notCall0 a=true) (ha:PA X (v::es) (lA ct Ra E ev)) (hpl:∀ e∈v::es,plainE e=true)
    (hl:(v::es).length < 30) (hline:(ap.endLine == cp.line)=true):PE X (.Call (.Attribute a (Str.ofString m) ap) (v::es) [] cp) (lE ct Ra E fun σ h=>(ea σ h).bind fun x h1=>opt (lmC x h1) fun _=>(ev σ h1).bind fun xs h2=>lmV m x xs h2) :=
  PE.imp (pe_bm PySem.F.plainAttrs_list slot hty hr ho ha (base_plain hn) (few_plain hpl hl) hline (star_plain (hpl v (by simp))) (back_plain fun e he=>hpl e (by simp [he]))) fun σ H Q q=>by
    obtain ⟨μ,h,σs,rel,rst,ra,p⟩:=q
    refine lE.mk rel rst ra p fun m' w μ1 h1 H1 ex rel1 rst1 rv p1=>?_
    obtain ⟨xs,ex1,p2⟩:=Po.opt p1
    refine ⟨lmC_ty rel1 rv ex1,?_⟩
    exact lA.mk rel1 rst1 ra p2 fun ms vs μ2 h2 H2 ex2 rel2 rst2 rvs p3=>⟨μ2,h2,m',ms,rel2,rv.ext ex2,rvs,p3⟩
noncomputable abbrev kP (k:Int×Int):List Key:=[Sum.inl k.1,Sum.inl k.2]
set_option tactic.hygienic true in
theorem rv_pair {μ:List Addr} {L:Addr→Prop} {H:Hp} {y:MV} {v:V} {k:Int×Int} (r:RV ct μ L H y v) (e:pairOf y=some k):∃ p,v=.ref p∧¬ L p∧H p=some (.tup ((kP k).map L2.kV)):=by
  unfold pairOf at e
  split at e
  next a b w =>
    cases e
    cases y with
    | f x =>
      cases x with
      | tup xs =>
        simp only [tupOf,Option.some.injEq] at w
        rcases xs with _ | ⟨x,_ | ⟨y,_ | ⟨z,zs⟩⟩⟩ <;> simp at w
        obtain ⟨rfl,rfl⟩:=w
        simp only [RV,RF,RFs] at r
        obtain ⟨p,vs,rfl,n,hp,v1,r1,rfl,rfl,v2,r2,rfl,rfl,rfl⟩:=r
        exact ⟨p,rfl,n,hp⟩
      | _=>simp [tupOf] at w
    | tup xs =>
      simp only [tupOf,Option.some.injEq] at w
      subst w
      simp only [RV,RVs,RF] at r
      obtain ⟨p,vs,rfl,n,hp,v1,r1,rfl,rfl,v2,r2,rfl,rfl,rfl⟩:=r
      exact ⟨p,rfl,n,hp⟩
    | ref _=>simp [tupOf] at w
    | exc _=>simp [tupOf] at w
  next=>cases e
set_option tactic.hygienic true in
theorem e_make0 (fz:Bool) {cn:String} (c:Cc X Pm ct n Ra E N sc) (hk:Pm.mk0 cn=true) (hi:Pm.meths cn "__init__"=none) (hg:gl sc (Str.ofString cn)=true) :
    PE X (.Call (.Name (Str.ofString cn) p) [] [] pos) (lE ct Ra E fun σ h=>(R.ok [] h).bind fun xs h1=>makeV Pm (run Pm n) fz cn xs h1):=by
  obtain ⟨g1,g2,g3⟩:=gl_of c.sc hg
  obtain ⟨M,mg⟩:=c.txt.mk0 cn hk
  refine PE.imp (pe_make00 M g1 mg g2) fun σ H Q q=>?_
  obtain ⟨μ,h,σs,rel1,rst,ra,p1⟩:=q
  intro x dx hx hdx hne
  have hx':upd H dx (.own x) x=none:=by rw [upd_ne (Ne.symm hne)]; exact hx
  have ex1:=Ext.new rel1 hdx (.own x)
  have rel2:=rel1.new hdx (.own x)
  have ex2:=Ext.cell rel2 hx' (.obj cn []) (.ins (ct cn) dx [])
  have rel3:Rel ct (μ++[x]) (h++[.obj cn []]) (upd (upd H dx (.own x)) x (.ins (ct cn) dx [])):=rel2.cell hx' ⟨dx,[],upd_same,rfl,RVs.nil⟩
  have ext:=ex1.trans ex2
  have hx2:(μ++[x])[h.length]?=some x:=by rw [← rel1.len]; simp
  have p2:Po ct E (makeV Pm (run Pm n) fz cn [] h) μ h H (fun m μ' h' H'=>∀ v,RV ct μ' (Liv μ' h') H' m v→Q v H'):=p1
  unfold makeV at p2
  rw [hi] at p2
  simp only [R.bind_ok,isNon_non,Bool.true_eq_false,if_false] at p2
  cases fz with
  | false=>exact p2 _ _ ext rel3 _ (by simp only [RV]; exact ⟨x,hx2,rfl⟩)
  | true =>
    dsimp only at p2
    split at p2
    next c' fs ec =>
      obtain ⟨ys,ey,p4⟩:=Po.opt p2
      split at p4
      next t =>
        obtain ⟨b,dx',gs,eb,hb,q1,q2⟩:=rel3.obj ec
        rw [hx2] at eb; cases eb
        have nx:x∉μ:=rel1.fresh hx
        refine p4 μ _ (Ext.cut rel1.len ext) (rel1.cut t rel3) (.ref x) ?_
        simp only [RV,RF]
        refine ⟨x,dx',gs,rfl,fun l=>?_,hb,?_,?_⟩
        · obtain ⟨i,_,e1,_,_⟩:=l
          exact nx (List.mem_of_getElem? e1)
        · rw [q1,List.map_map]; rfl
        · exact RFs.to ⟨fun _ _ e _=>e,fun b _ _ nl l=>nl (Liv.cut rel1.len l)⟩ (RVs.toF ey q2)
      next=>exact p4.elim
    next=>exact p2.elim
theorem Po.calm {α:Type} {r:R α} {μ:List Addr} {h:MH} {H:Hp} {k:α→List Addr→MH→Hp→Prop} (p:Po ct E (MP.calm r) μ h H k):Po ct E0 r μ h H k:=by
  cases r with
  | ok x h'=>exact p
  | exc c h'=>exact p.elim
  | stuck=>exact p.elim
theorem PIf.imp {ifs:List Expr} {t t':TT} (p:PIf X ifs t) (k:∀ σ H Q,t' σ H Q→t σ H Q):PIf X ifs t':=fun pins s σ H Q I h=>p pins s σ H Q I (k σ H Q h)
theorem relSt_stM {μ:List Addr} {h:MH} {H:Hp} {σ:L2.St} {σs:MSt} (ncv:Nat) (js:List Nat) (r:RelSt ct μ h H σ σs):RelSt ct μ h H (stC ncv js σ) (stM ncv js σs):=by
  refine ⟨by simp [L3.stC,MP.stM],fun i m e=>?_⟩
  unfold MP.stM at e
  by_cases hi:i < ncv
  · rw [List.getElem?_append_left (by simpa using hi),List.getElem?_replicate,if_pos hi] at e
    cases e
  · rw [List.getElem?_append_right (by simpa using hi),List.length_replicate,List.getElem?_map] at e
    cases ej:js[i - ncv]? with
    | none=>rw [ej] at e; cases e
    | some j =>
      rw [ej] at e
      simp only [Option.map_some,Option.some.injEq] at e
      have e':σs[j]?=some (some m):=by
        cases q:σs[j]? with
        | none=>rw [q] at e; cases e
        | some z=>rw [q] at e; exact congrArg some e
      obtain ⟨v,ev,rv⟩:=r.at_ j m e'
      refine ⟨v,?_,rv⟩
      unfold L3.stC
      rw [List.getElem?_append_right (by simpa using hi),List.length_replicate,List.getElem?_map,ej]
      simp [ev]
theorem comp_read (fz:Bool) {ncv:Nat} {js:List Nat} {it:String} {t:Tg} {es:MSt→MH→R (List MV)} {tc:MSt→MH→R Bool} {te:MSt→MH→R MV} (σ:L2.St) (H:Hp) (Q:VK)
    (q:lE ct Ra E (fun σ h=>(es σ h).bind fun xs h1=>opt (itV it xs h1) fun p=>(compL p.2 (compB t tc te) p.1 [] (MP.stM ncv js σ) h1).bind fun acc h3=>newL fz acc h3) σ H Q) :
    tComp (lI ct Ra E es it) ncv js (lG ct t) (lT ct (fun _=>True) E0 tc) (lE ct (fun _=>True) E0 te) σ H Q:=by
  obtain ⟨μ,h,σs,rel,rst,ra,p⟩:=q
  refine ⟨μ,h,σs,rel,rst,ra,(Po.bind p).imp fun xs μ1 h1 H1 ⟨ex1,rel1,p1⟩=>?_⟩
  obtain ⟨⟨items,g⟩,e1,p2⟩:=Po.opt p1
  refine ⟨items,g,e1,rel1,fun J wk=>?_⟩
  dsimp only at p2
  refine ⟨fun i m acc σ' H'=>∃ μ' h' σs' macc,m=items.length - i∧i≤items.length∧Ext μ1 h1 H1 μ' h' H'∧Rel ct μ' h' H'∧RelSt ct μ' h' H' σ' σs'∧RVs ct μ' (Liv μ' h') H' macc acc ∧
    Po ct E ((compL g (compB t tc te) (items.drop i) macc σs' h').bind fun acc h3=>newL fz acc h3) μ' h' H' (kV ct Q),?_,?_⟩
  · exact ⟨items.length,μ1,h1,stM ncv js σs,[],by simp,Nat.zero_le _,Ext.refl _ _ _,rel1,relSt_stM ncv js (rst.ext ex1),RVs.nil,by simpa using p2⟩
  · rintro i m acc σ' H' ⟨μ',h',σs',macc,rfl,hi',ex,rel',rst',racc,p3⟩
    by_cases lt:i < items.length
    · right
      have ed:items.drop i=items[i]::items.drop (i + 1):=List.drop_eq_getElem_cons lt
      rw [ed] at p3
      simp only [compL] at p3
      split at p3
      next gd =>
        obtain ⟨w1,_⟩:=wk i μ' h' H' ex rel' gd.1
        obtain ⟨go,yl⟩:=w1 lt
        refine ⟨go,fun x H2 y=>?_⟩
        obtain ⟨mx,em,ex2,rel2,rx⟩:=yl x H2 y
        have emx:mx=items[i]:=by simpa [lt] using em.symm
        subst emx
        have p4:=Po.start ex2 p3
        unfold compB at p4
        cases eb:bindT t items[i] σs' with
        | none=>rw [eb] at p4; exact p4.elim
        | some σ2s =>
          rw [eb] at p4
          simp only [opt_some] at p4
          refine ⟨μ',h',σs',items[i],σ2s,rel2,rst'.ext ex2,rx,eb,fun σ2 rst2=>?_⟩
          have p5:Po ct E ((MP.calm (tc σ2s h')).bind fun k h2=>(if k=true then (MP.calm (te σ2s h2)).bind fun y h3=>R.ok (some y,σ2s) h3 else R.ok (none,σ2s) h2).bind fun p h1=>(compL g (compB t tc te) (items.drop (i + 1)) (match p.1 with | some y=>macc++[y] | none=>macc) p.2 h1).bind fun acc h3=>newL fz acc h3) μ' h' H2 (kV ct Q):=by
            cases er:MP.calm (tc σ2s h') with
            | stuck=>rw [er] at p4; exact p4
            | exc c h''=>rw [er] at p4; exact p4
            | ok k h'' =>
              rw [er] at p4
              simp only [R.bind_ok] at p4 ⊢
              cases k with
              | false=>exact p4
              | true =>
                simp only [if_true] at p4 ⊢
                cases er2:MP.calm (te σ2s h'') with
                | stuck=>rw [er2] at p4; exact p4
                | exc c h3=>rw [er2] at p4; exact p4
                | ok y h3=>rw [er2] at p4; exact p4
          refine ⟨μ',h',σ2s,rel2,rst2,trivial,Po.calm ((Po.bind p5).imp fun k μ3 h3 H3 ⟨ex3,rel3,p6⟩=>?_)⟩
          cases k with
          | false =>
            simp only [Bool.false_eq_true,if_false,R.bind_ok] at p6 ⊢
            exact ⟨items.length - (i + 1),by lia,μ3,h3,σ2s,macc,rfl,lt,(ex.trans ex2).trans ex3,rel3,rst2.ext ex3,(racc.ext ex2).ext ex3,p6⟩
          | true =>
            simp only [if_true] at p6 ⊢
            have p7:Po ct E ((MP.calm (te σ2s h3)).bind fun y h4=>(compL g (compB t tc te) (items.drop (i + 1)) (macc++[y]) σ2s h4).bind fun acc h5=>newL fz acc h5) μ3 h3 H3 (kV ct Q):=by
              cases er2:MP.calm (te σ2s h3) with
              | stuck=>rw [er2] at p6; exact p6
              | exc c h4=>rw [er2] at p6; exact p6
              | ok y h4=>rw [er2] at p6; exact p6
            refine ⟨μ3,h3,σ2s,rel3,rst2.ext ex3,trivial,Po.calm ((Po.bind p7).imp fun y μ4 h4 H4 ⟨ex4,rel4,p8⟩ w rw_=>?_)⟩
            refine ⟨by rw [racc.length]; exact Nat.lt_of_lt_of_le gd.2 sizeL_le,items.length - (i + 1),by lia,μ4,h4,σ2s,macc++[y],rfl,lt,((ex.trans ex2).trans ex3).trans ex4,rel4,(rst2.ext ex3).ext ex4,?_,p8⟩
            exact (((racc.ext ex2).ext ex3).ext ex4).append (RVs.cons rw_ RVs.nil)
      next=>exact p3.elim
    · left
      have hi2:i=items.length:=by lia
      subst hi2
      rw [List.drop_length] at p3
      simp only [compL] at p3
      split at p3
      next gd =>
        obtain ⟨_,w2⟩:=wk items.length μ' h' H' ex rel' gd
        exact ⟨w2 rfl,fun D hD=>newL_ok rel' racc p3 D hD⟩
      next=>exact p3.elim
theorem e_comp (fz:Bool) {elt iter tg:Expr} {ifs:List Expr} {cs:Scope} {N':List Str} {ncv:Nat} {js:List Nat} {it:String} {t:Tg} {es:MSt→MH→R (List MV)} {tc:MSt→MH→R Bool} {te:MSt→MH→R MV} (hok:compOkB X.env.scope X.N cs N' ncv js=true) (hc:X.calm=true)
    (hi:PI X tg iter (lI ct Ra E es it)) (hg:∀ C s3 H ex,PG (cxC X cs N' C s3 H ex) tg (lG ct t)) (hif:∀ C s3 H ex,PIf (cxC X cs N' C s3 H ex) ifs (lT ct (fun _=>True) E0 tc)) (helt:∀ C s3 H ex,PE (cxC X cs N' C s3 H ex) elt (lE ct (fun _=>True) E0 te)) (hpl:plainE iter=true) :
    PE X (.ListComp elt [⟨tg,iter,ifs,0⟩] cs pos) (lE ct Ra E fun σ h=>(es σ h).bind fun xs h1=>opt (itV it xs h1) fun p=>(compL p.2 (compB t tc te) p.1 [] (stM ncv js σ) h1).bind fun acc h3=>newL fz acc h3):=by
  exact PE.imp (pe_comp N' ncv js hok hc hi hg hif helt (folded_plain hpl)) (comp_read fz)
end
end
end SD
end
section
set_option maxHeartbeats 4000000
namespace SD
open PySem PySem.Spec PyProof.Rows L2 L3 M3 MP
section
variable {ct:Tx} {X:Cx} {E:XK} {Pm:Prog} {n:Nat} {Ra:L2.St→Prop} {N:List Str} {sc:Scope} {ea eb:MSt→MH→R MV} {a b:Expr} {p pos:Pos}
theorem rv_str {μ:List Addr} {L:Addr→Prop} {H:Hp} {m:MV} {v:V} {z:Str} (r:RV ct μ L H m v) (e:strOf m=some z):v=.str z:=by
  cases m with
  | f x =>
    cases x with
    | str s=>cases e; simpa only [RV,RF] using r
    | _=>cases e
  | _=>cases e
theorem size_line {k:Nat} (h:k≤sizeL):k≤sizeLine:=by rw [sizeLine_eq]; unfold sizeL at h; lia
theorem log_small {i:Int} (h:i.natAbs < 2 ^ 256):i.natAbs.log2 < 1920:=by
  by_cases h0:i.natAbs=0
  · rw [h0]; decide
  · exact Nat.lt_of_lt_of_le ((Nat.log2_lt h0).mpr h) (by decide)
theorem tupsL_of {K:PySem.W.Frag} {μ:List Addr} {L:Addr→Prop} {H:Hp}:∀ {xs:List MV} {vs:List V} {ts:List (List Int)},RVs ct μ L H xs vs→xs.mapM tupI=some ts→TupsL K H vs ts
  | [],vs,ks,r,e=>by
    simp only [RVs] at r
    subst r
    simp at e; subst e
    exact .nil
  | x::xs,vs,ks,r,e=>by
    simp only [RVs] at r
    obtain ⟨v,r',rfl,h1,h2⟩:=r
    simp only [List.mapM_cons,Option.bind_eq_bind,Option.bind_eq_some_iff] at e
    obtain ⟨k,e1,ks',e2,e3⟩:=e
    cases e3
    unfold tupI at e1
    rw [Option.bind_eq_some_iff] at e1
    obtain ⟨ys,e4,e5⟩:=e1
    obtain ⟨T,ws,rfl,_,q2,q3⟩:=tupOf_rv e4 h1
    have:=ints_rvs e5 q3
    subst this
    exact .cons (SqT.of q2) (tupsL_of h2 e2)
theorem rvs_at {μ:List Addr} {L:Addr→Prop} {H:Hp}:∀ {xs:List MV} {vs:List V},RVs ct μ L H xs vs→∀ i,i < xs.length→RV ct μ L H (xs.getD i (.f .non)) (vs.getD i .non)
  | [],vs,r,i,h=>by simp at h
  | x::xs,vs,r,i,h=>by
    simp only [RVs] at r
    obtain ⟨v,r',rfl,h1,h2⟩:=r
    cases i with
    | zero=>exact h1
    | succ i=>exact rvs_at h2 i (by simpa using h)
theorem rvs_pick {μ:List Addr} {L:Addr→Prop} {H:Hp} {xs:List MV} {vs:List V} (r:RVs ct μ L H xs vs):∀ p:List Nat,(∀ i∈p,i < xs.length)→RVs ct μ L H (p.map fun i=>xs.getD i (.f .non)) (p.map fun i=>vs.getD i .non)
  | [],_=>RVs.nil
  | i::p,h=>RVs.cons (rvs_at r i (h i List.mem_cons_self)) (rvs_pick r p fun j hj=>h j (List.mem_cons_of_mem _ hj))
theorem e_tx1 {o:T1} {x:Str} (c:Cc X Pm ct n Ra E N sc) (ho:t1S o=true) (hx:x=t1N o) (hg:gl sc x=true) (ha:PE X a (lE ct Ra E ea)) (hp:plainE a=true) :
    PE X (.Call (.Name x p) [a] [] pos) (lE ct Ra E fun σ h=>(ea σ h).bind fun x h1=>tx1V o x h1):=by
  obtain ⟨k1,k2,k3⟩:=gl_of c.sc hg
  cases o with
  | setl=>cases ho
  | str =>
    subst hx
    have hm:X.mg "str"=none:=c.txt.blts "str" (by simp [isTys])
    refine PE.imp (pe_callTy call_str_int k1 hm (by decide +kernel) (pa_cons ha pa_nil (star_plain hp)) k3 k2 (star_plain hp) (by rfl)) fun σ H Q q=>?_
    obtain ⟨μ,h,σs,rel,rst,ra,pp⟩:=q
    refine lE.mk rel rst ra pp fun m w μ1 h1 H1 ex rel1 rst1 rv p1=>?_
    obtain ⟨i,e1,p2⟩:=Po.opt p1
    split at p2
    next hl =>
      have:=intOf_eq e1; subst this
      exact ⟨i,by rw [rv_int rv],log_small hl,p2.now rel1 _ (rv_mkS _)⟩
    next=>exact p2.elim
  | srtT =>
    subst hx
    have hm:X.mg "sorted"=none:=c.txt.blts "sorted" (by simp)
    refine PE.imp (pe_callB call_sortT k1 hm (by decide +kernel) (pa_cons ha pa_nil (star_plain hp)) k3 k2 (star_plain hp) (by rfl)) fun σ H Q q=>?_
    obtain ⟨μ,h,σs,rel,rst,ra,pp⟩:=q
    refine lE.mk rel rst ra pp fun m w μ1 h1 H1 ex rel1 rst1 rv p1=>?_
    obtain ⟨xs,e1,p2⟩:=Po.opt p1
    obtain ⟨ts,e2,p3⟩:=Po.opt p2
    obtain ⟨pk,e3,p4⟩:=Po.opt p3
    obtain ⟨b,vs,rfl,rd,rs⟩:=listOf_rv rel1 e1 rv
    have tl:=tupsL_of (K:=X.K) rs e2
    obtain ⟨_,_,z3⟩:=srtP_lt e3
    have hl:=tupsL_len tl
    have hl2:=rs.length
    exact ⟨b,vs,ts,pk,rfl,.inl rd,tl,e3,newL_ok (fz:=true) rel1 (rvs_pick rs pk fun i hi=>by have:=z3 i hi; lia) p4⟩
  | int =>
    subst hx
    have hm:X.mg "int"=none:=c.txt.blts "int" (by simp [isTys])
    refine PE.imp (pe_callTy call_intS k1 hm (by decide +kernel) (pa_cons ha pa_nil (star_plain hp)) k3 k2 (star_plain hp) (by rfl)) fun σ H Q q=>?_
    obtain ⟨μ,h,σs,rel,rst,ra,pp⟩:=q
    refine lE.mk rel rst ra pp fun m w μ1 h1 H1 ex rel1 rst1 rv p1=>?_
    obtain ⟨z,e1,p2⟩:=Po.opt p1
    obtain ⟨i,e2,p3⟩:=Po.opt p2
    split at p3
    next hl=>exact ⟨z,i,by rw [rv_str rv e1],e2,hl,p3.now rel1 _ (rv_mkI _)⟩
    next=>exact p3.elim
  | len =>
    subst hx
    have hm:X.mg "len"=none:=c.txt.blts "len" (by simp [fnNames])
    refine PE.imp (pe_callB call_len_str k1 hm PySem.boot_len (pa_cons ha pa_nil (star_plain hp)) k3 k2 (star_plain hp) (by rfl)) fun σ H Q q=>?_
    obtain ⟨μ,h,σs,rel,rst,ra,pp⟩:=q
    refine lE.mk rel rst ra pp fun m w μ1 h1 H1 ex rel1 rst1 rv p1=>?_
    obtain ⟨z,e1,p2⟩:=Po.opt p1
    split at p2
    next hl=>exact ⟨z,by rw [rv_str rv e1],size_line hl,p2.now rel1 _ (rv_mkI _)⟩
    next=>exact p2.elim
theorem cellsV_of {μ:List Addr} {L:Addr→Prop} {H:Hp}:∀ {xs:List MV} {vs:List V} {ks:List (Int×Int)},RVs ct μ L H xs vs→xs.mapM pairOf=some ks→CellsV H vs ks
  | [],vs,ks,r,e=>by
    simp only [RVs] at r
    subst r
    simp at e; subst e
    exact .nil
  | x::xs,vs,ks,r,e=>by
    simp only [RVs] at r
    obtain ⟨v,r',rfl,h1,h2⟩:=r
    simp only [List.mapM_cons,Option.bind_eq_bind,Option.bind_eq_some_iff] at e
    obtain ⟨k,e1,ks',e2,e3⟩:=e
    cases e3
    obtain ⟨T,q1,_,q2⟩:=rv_pair h1 e1
    exact .cons ⟨T,q1,q2⟩ (cellsV_of h2 e2)
theorem e_setl {p2 p3:Pos} (c:Cc X Pm ct n Ra E N sc) (hg:gl sc "len"=true) (hgs:gl sc "set"=true) (ha:PE X a (lE ct Ra E ea)) (hp:plainE a=true) :
    PE X (.Call (.Name "len" p) [.Call (.Name "set" p2) [a] [] p3] [] pos) (lE ct Ra E fun σ h=>(ea σ h).bind fun x h1=>tx1V .setl x h1):=by
  obtain ⟨g1,g2,g3⟩:=gl_of c.sc hg
  obtain ⟨k1,k2,k3⟩:=gl_of c.sc hgs
  have hm:X.mg "len"=none:=c.txt.blts "len" (by simp [fnNames])
  have hm':X.mg "set"=none:=c.txt.blts "set" (by simp)
  refine PE.imp (pe_callB call_lenS g1 hm PySem.boot_len (pa_cons (pe_callTy (call_setL c.calm (by have:=c.units; lia)) k1 hm' (by decide +kernel) (pa_cons ha pa_nil (star_plain hp)) k3 k2 (star_plain hp) (by rfl)) pa_nil (by rfl)) g3 g2 (by rfl) (by rfl)) fun σ H Q q=>?_
  obtain ⟨μ,h,σs,rel,rst,ra,pp⟩:=q
  refine lE.mk rel rst ra pp fun m w μ1 h1 H1 ex rel1 rst1 rv p1=>?_
  obtain ⟨xs,e1,p4⟩:=Po.opt p1
  obtain ⟨ks,e2,p5⟩:=Po.opt p4
  split at p5
  next hl =>
    obtain ⟨h1',h2',h3'⟩:=hl
    obtain ⟨b,vs,rfl,rd,rs⟩:=listOf_rv rel1 e1 rv
    refine ⟨b,vs,ks,rfl,rd,cellsV_of rs e2,fun k hk=>by have q:=List.all_eq_true.mp h1' k hk; unfold smallB at q; unfold smallK; exact of_decide_eq_true q,h2',fun q hq=>?_⟩
    refine ⟨q,ks.length,rfl,upd_same,h3',?_⟩
    exact (Po.start (Ext.new rel1 hq (SetN ks.length q)) p5).now (rel1.new hq (SetN ks.length q)) _ (rv_mkI _)
  next=>exact p5.elim
theorem refs_rv {μ:List Addr} {L:Addr→Prop} {H:Hp}:∀ {xs ys:List MV} {vs ws:List V} {as:List Nat},RVs ct μ L H xs vs→RVs ct μ L H ys ws→refsOf xs=some as→refsOf ys=some as→vs=ws∧∀ v∈vs,∃ c,v=V.ref c
  | [],ys,vs,ws,as,r,r',e,e'=>by
    simp only [refsOf,Option.some.injEq] at e
    subst e
    have:ys=[]:=by
      cases ys with
      | nil=>rfl
      | cons y ys=>cases y <;> simp [refsOf] at e'
    subst this
    simp only [RVs] at r r'
    subst r; subst r'
    exact ⟨rfl,fun v h=>by cases h⟩
  | x::xs,ys,vs,ws,as,r,r',e,e'=>by
    cases x with
    | ref i =>
      simp only [refsOf,Option.map_eq_some_iff] at e
      obtain (⟨as',e1,rfl⟩):=e
      cases ys with
      | nil=>simp [refsOf] at e'
      | cons y ys =>
        cases y with
        | ref j =>
          simp only [refsOf,Option.map_eq_some_iff,List.cons.injEq] at e'
          obtain (⟨as2,e2,rfl,rfl⟩):=e'
          simp only [RVs,RV] at r r'
          obtain (⟨v,t,rfl,⟨b,eb,rfl⟩,r2⟩):=r
          obtain (⟨v',t',rfl,⟨b',eb',rfl⟩,r2'⟩):=r'
          rw [eb] at eb'; cases eb'
          obtain (⟨q1,q2⟩):=refs_rv r2 r2' e1 e2
          subst q1
          exact ⟨rfl,fun v h=>by
            rcases List.mem_cons.mp h with rfl | h
            · exact ⟨b,rfl⟩
            · exact q2 v h⟩
        | _=>simp [refsOf] at e'
    | _=>simp [refsOf] at e
theorem e_idx {ap cp:Pos} (ha:PE X a (lE ct Ra E ea)) (hb:PE X b (lE ct Ra E eb)) (hn:notCall0 a=true) (hpl:plainE b=true) (hline:(ap.endLine == cp.line)=true) :
    PE X (.Call (.Attribute a "index" ap) [b] [] cp) (lE ct Ra E fun σ h=>(ea σ h).bind fun x h1=>opt ((listOf h1 x).map fun _=>(⟨#[]⟩:Str)) fun _=>(eb σ h1).bind fun y h2=>tx2V .idx x y h2):=by
  have hpl':∀ e∈[b],plainE e=true:=fun e he=>by rw [List.mem_singleton.mp he]; exact hpl
  refine PE.imp (pe_bm PySem.F.plainAttrs_list PySem.F.slot_list_index PySem.F.type_list_index mt_index ha (pa_cons hb pa_nil (star_plain hpl)) (base_plain hn) (few_plain hpl' (by simp)) hline (star_plain hpl) (by rfl)) fun σ H Q q=>?_
  obtain ⟨μ,h,σs,rel,rst,ra,pp⟩:=q
  refine lE.mk rel rst ra pp fun m w μ1 h1 H1 ex1 rel1 rst1 rv1 p1=>?_
  obtain ⟨st,e0,p2⟩:=Po.opt p1
  rw [Option.map_eq_some_iff] at e0
  obtain ⟨xs0,e0,_⟩:=e0
  obtain ⟨d,vs0,rfl,rd0,_⟩:=listOf_rv rel1 e0 rv1
  refine ⟨.inl ⟨rfl,vs0,.inl rd0⟩,?_⟩
  refine lE.mk rel1 rst1 ra p2 fun m2 w2 μ2 h2 H2 ex2 rel2 rst2 rv2 p3=>?_
  obtain ⟨ns,e1,p4⟩:=Po.opt p3
  obtain ⟨k,e2,p5⟩:=Po.opt p4
  obtain ⟨j,e3,p6⟩:=Po.opt p5
  rw [Option.bind_eq_some_iff] at e1
  obtain ⟨xs,e4,e5⟩:=e1
  obtain ⟨d',vs,ed,rd,rs⟩:=listOf_rv rel2 e4 (rv1.ext ex2)
  cases ed
  have:=ints_rvs e5 rs
  subst this
  have:=intOf_eq e2; subst this
  exact ⟨_,ns,k,j,rfl,by rw [rv_int rv2],rd,e3,p6.now rel2 _ (rv_mkI _)⟩
theorem sI_zipN (hK:X.K=ct.K) {a b:Expr} {y:Str} {pt p pos:Pos} {ev:MSt→MH→R (List MV)} (hg:Gl X "zip") (hm:X.mg "zip"=none) (ha:PA X [a,b] (lA ct Ra E ev)) (hpl:∀ e∈[a,b],plainE e=true) (hn:∀ σ h xs h',ev σ h=.ok xs h'→xs.length=2) :
    PI X (.Name y pt) (.Call (.Name "zip" p) [a,b] [] pos) (lI ct Ra E ev "zip"):=by
  refine PI.imp (pi_zipN hg hm ha (stars_plain hpl) (stars_plain fun e he=>hpl e (by simp at he; simp [he]))) fun σ H Q q=>?_
  obtain ⟨μ,hh,σs,rel,rst,ra,p⟩:=q
  refine ⟨μ,hh,σs,rel,rst,ra,?_⟩
  cases er:ev σs hh with
  | exc c h'=>rw [er] at p; exact p
  | stuck=>rw [er] at p; exact p
  | ok xs h' =>
    rw [er] at p
    have hx:=hn _ _ _ _ er
    intro μ' H' ex rel' vs rvs
    obtain ⟨items,g,e1,_,k⟩:=p μ' H' ex rel'
    rcases xs with _ | ⟨m,_ | ⟨m2,_ | ⟨m3,xs⟩⟩⟩
    · simp at hx
    · simp at hx
    · obtain ⟨v,v',rfl,rm,rm'⟩:=rvs_two rvs
      simp only [itV_zip,Option.bind_eq_some_iff,Option.map_eq_some_iff,Prod.mk.injEq] at e1
      obtain ⟨us,e2,ws,e3,rfl,rfl⟩:=e1
      obtain ⟨b1,a1,rfl,s1⟩:=stay_of rel' e2 rm
      obtain ⟨b2,a2,rfl,s2⟩:=stay_of rel' e3 rm'
      obtain ⟨vs1,q1,_⟩:=s1 _ _ _ (Ext.refl _ _ _) rel' (guard_now e2)
      obtain ⟨vs2,q2,_⟩:=s2 _ _ _ (Ext.refl _ _ _) rel' (guard_now e3)
      exact ⟨b1,b2,a1,a2,rfl,⟨vs1,q1.s hK⟩,⟨vs2,q2.s hK⟩,k _ (wk_zip hK s1 s2)⟩
    · simp at hx
end
section
variable {ct:Tx} {Pm:Prog} {n:Nat}
section
variable {X:Cx} {E:XK} {Ra:L2.St→Prop} {N:List Str} {sc:Scope}
theorem pe_congr {e:Expr} {ev ev':MSt→MH→R MV} (p:PE X e (lE ct Ra E ev)) (h:∀ σ hh,ev' σ hh=ev σ hh):PE X e (lE ct Ra E ev'):=by
  have:ev'=ev:=funext fun σ=>funext fun hh=>h σ hh
  rw [this]; exact p
theorem both_congr {e:Expr} {ev ev':MSt→MH→R MV} (p:PE X e (lE ct Ra E ev)∧PT X e (lT ct Ra E (tst ev))) (h:∀ σ hh,ev' σ hh=ev σ hh):PE X e (lE ct Ra E ev')∧PT X e (lT ct Ra E (tst ev')):=by
  have:ev'=ev:=funext fun σ=>funext fun hh=>h σ hh
  rw [this]; exact p
theorem Cc.comp {cs:Scope} {N':List Str} (c:Cc X Pm ct n Ra E N sc) (nd:N'.Nodup) (C:Addr) (s3:Shared) (H:Hp) (ex:List Addr):Cc (cxC X cs N' C s3 H ex) Pm ct n (fun _=>True) E0 N' (relabS cs sc) :=
  ⟨c.txt,c.calm,c.room,fun σ _ pins H s e s' I ⟨_,_,_,_,_,_,_,_,_,_,_,_,_,_,_,q⟩=>q.elim,rfl,by rw [← c.sc]; rfl,nd,c.hK⟩
noncomputable def Sd (X:Cx) (ct:Tx) (Pm:Prog) (n:Nat) (Ra:L2.St→Prop) (E:XK) (me:ME) (e:Expr):Prop :=
  PE X e (lE ct Ra E (evalE Pm (run Pm n) me))∧(okT me=true→PT X e (lT ct Ra E (tst (evalE Pm (run Pm n) me))))
theorem Sd.of {me:ME} {e:Expr} (h:PE X e (lE ct Ra E (evalE Pm (run Pm n) me))∧PT X e (lT ct Ra E (tst (evalE Pm (run Pm n) me)))):Sd X ct Pm n Ra E me e:=⟨h.1,fun _=>h.2⟩
theorem len30 {ms:List ME} {es:List Expr} (b:Bo ct X Ra E Pm n ms es) (hl:es.length < 1000):∀ σ h xs h',evalEs Pm (run Pm n) ms σ h=.ok xs h'→xs.length≤sizeLine:=fun σ h xs h' e=>by
  rw [evalEs_len e,b.length]
  exact Nat.le_trans (Nat.le_of_lt hl) (by decide)
end
end
end SD
end
section
set_option maxHeartbeats 4000000
namespace SD
open PySem PySem.Spec PyProof.Rows L2 L3 M3 MP
variable {ct:Tx} {Pm:Prog} {n:Nat}
set_option tactic.hygienic true in
theorem sI_of {X:Cx} {E:XK} {Ra:L2.St→Prop} {N:List Str} {sc:Scope} {it:String} {t iter:Expr} {ms:List ME} (c:Cc X Pm ct n Ra E N sc) (k1:chkIt t it iter=true) (k2:gl sc (Str.ofString it)=true) (b:Bo ct X Ra E Pm n ms (srcArgs iter)) :
    PI X t iter (lI ct Ra E (evalEs Pm (run Pm n) ms) it):=by
  obtain ⟨g1,g2,g3⟩:=gl_of c.sc k2
  unfold chkIt at k1
  split at k1
  next x p as p2 =>
    simp only [Bool.and_eq_true,Bool.or_eq_true,beq_iff_eq] at k1
    obtain ⟨k1,rfl⟩:=k1
    have b':Bo ct X Ra E Pm n ms as:=b
    rcases k1 with (⟨rfl,ha⟩ | ⟨⟨rfl,ht⟩,ha⟩) | ⟨⟨rfl,ht⟩,ha⟩
    · have hl:=b'.length
      have hm:X.mg "range"=none:=c.txt.blts "range" (by simp)
      exact sI_range g1 hm b'.pa b'.plain ha fun σ h xs h' e=>by rw [evalEs_len e,hl]
    · cases t with
      | Tuple es k pt =>
        have hm:X.mg "zip"=none:=c.txt.blts "zip" (by simp)
        rcases as with _ | ⟨u,_ | ⟨v,_ | ⟨w,as⟩⟩⟩
        · simp at ha
        · simp at ha
        · exact sI_zip c.hK g1 hm b'.pa b'.plain fun σ h xs h' e=>by rw [evalEs_len e,b'.length]; rfl
        · simp at ha
      | Name y pt =>
        have hm:X.mg "zip"=none:=c.txt.blts "zip" (by simp)
        rcases as with _ | ⟨u,_ | ⟨v,_ | ⟨w,as⟩⟩⟩
        · simp at ha
        · simp at ha
        · exact sI_zipN c.hK g1 hm b'.pa b'.plain fun σ h xs h' e=>by rw [evalEs_len e,b'.length]; rfl
        · simp at ha
      | _=>exact Bool.noConfusion ht
    · cases t with
      | Tuple es k pt =>
        have hm:X.mg "enumerate"=none:=c.txt.blts "enumerate" (by simp)
        rcases as with _ | ⟨u,_ | ⟨v,as⟩⟩
        · simp at ha
        · exact sI_enum c.hK g1 hm b'.pa b'.plain fun σ h xs h' e=>by rw [evalEs_len e,b'.length]; rfl
        · simp at ha
      | _=>exact Bool.noConfusion ht
  next=>exact Bool.noConfusion k1
theorem twoL_eq {α:Type} {l:List α} {p:α×α} (h:twoL l=some p):l=[p.1,p.2]:=by
  rcases l with _ | ⟨a,_ | ⟨b,_ | ⟨c,l⟩⟩⟩
  · exact nomatch h
  · exact nomatch h
  · cases h; rfl
  · exact nomatch h
theorem oneL_eq {α:Type} {l:List α} {p:α} (h:oneL l=some p):l=[p]:=by
  rcases l with _ | ⟨a,_ | ⟨b,l⟩⟩
  · exact nomatch h
  · cases h; rfl
  · exact nomatch h
theorem no0 {α:Type} {a:α} {p:Prop} (h:none=some a):p:=nomatch h
theorem asC1_eq {e v:Expr} {x:Str} (h:asC1 e=some (x,v)):∃ p q,e=.Call (.Name x p) [v] [] q:=by
  cases e with
  | Call g as ks q =>
    cases g with
    | Name z p =>
      cases ks with
      | nil =>
        have h:((oneL as).map fun a=>(z,a))=some (x,v):=h
        obtain ⟨a,e1,h⟩:=Option.map_eq_some_iff.mp h
        cases h
        exact ⟨p,q,by rw [oneL_eq e1]⟩
      | cons _ _=>exact no0 h
    | _=>exact no0 h
  | _=>exact no0 h
theorem asCmp_eq {e l r:Expr} {o:CmpOp} (h:asCmp e=some (l,o,r)):∃ p,e=.Compare l [o] [r] p:=by
  cases e with
  | Compare l' os rs p =>
    have h:((oneL os).bind fun o=>(oneL rs).map fun r=>(l',o,r))=some (l,o,r):=h
    obtain ⟨o',e1,h⟩:=Option.bind_eq_some_iff.mp h
    obtain ⟨r',e2,h⟩:=Option.map_eq_some_iff.mp h
    cases h
    exact ⟨p,by rw [oneL_eq e1,oneL_eq e2]⟩
  | _=>exact no0 h
theorem isNo_eq {e:Expr} (h:isNo e=true):∃ j p,e=.Constant .none j p:=by
  cases e with
  | Constant k j p =>
    cases k with
    | none=>exact ⟨_,_,rfl⟩
    | _=>exact ff h
  | _=>exact ff h
theorem cmp_of {e:Expr} {f:Expr→CmpOp→Expr→Bool} (h:(match asCmp e with | some (l,o,r)=>f l o r | none=>false)=true):∃ l o r p,e=.Compare l [o] [r] p∧f l o r=true:=by
  cases w:asCmp e with
  | none=>rw [w] at h; exact ff h
  | some q =>
    obtain ⟨l,o,r⟩:=q
    rw [w] at h
    obtain ⟨p,e⟩:=asCmp_eq w
    exact ⟨l,o,r,p,e,h⟩
theorem asC2_eq {e v u:Expr} {x:Str} (h:asC2 e=some (x,v,u)):∃ p q,e=.Call (.Name x p) [v,u] [] q:=by
  cases e with
  | Call g as ks q =>
    cases g with
    | Name z p =>
      cases ks with
      | nil =>
        have h:((twoL as).map fun a=>(z,a))=some (x,v,u):=h
        obtain ⟨a,e1,h⟩:=Option.map_eq_some_iff.mp h
        cases h
        exact ⟨p,q,by rw [twoL_eq e1]⟩
      | cons _ _=>exact no0 h
    | _=>exact no0 h
  | _=>exact no0 h
theorem asNm_eq {e:Expr} {x:Str} (h:asNm e=some x):∃ p,e=.Name x p:=by
  cases e with
  | Name y p=>cases h; exact ⟨p,rfl⟩
  | _=>exact no0 h
theorem is_of {e:Expr} {f:Str→Expr→Str→Bool} (h:(match isForm e with | some (x,v,y)=>f x v y | none=>false)=true):∃ x v y p1 p2 p3,e=.Call (.Name x p1) [v,.Name y p2] [] p3∧f x v y=true:=by
  cases w:isForm e with
  | none=>rw [w] at h; exact ff h
  | some q =>
    obtain ⟨x,v,y⟩:=q
    rw [w] at h
    obtain ⟨⟨x',v',y'⟩,e1,w⟩:=Option.bind_eq_some_iff.mp w
    obtain ⟨z,e2,w⟩:=Option.map_eq_some_iff.mp w
    cases w
    obtain ⟨p2,e2⟩:=asNm_eq e2
    have e2:y'=.Name y p2:=e2
    subst e2
    obtain ⟨p1,p3,e⟩:=asC2_eq e1
    exact ⟨_,_,_,p1,p2,p3,e,h⟩
theorem srtForm_eq {e v:Expr} {x y:Str} (h:srtForm e=some (x,y,v)):∃ p1 p2 p3 p,e=.Call (.Name x p1) [.Call (.Name y p2) [v] [] p3] [] p:=by
  obtain ⟨⟨x',v'⟩,e1,h⟩:=Option.bind_eq_some_iff.mp h
  obtain ⟨⟨y',w⟩,e2,h⟩:=Option.map_eq_some_iff.mp h
  cases h
  obtain ⟨p1,p,rfl⟩:=asC1_eq e1
  obtain ⟨p2,p3,rfl⟩:=asC1_eq e2
  exact ⟨p1,p2,p3,p,rfl⟩
set_option tactic.hygienic true in
mutual
theorem sB:∀ (me:ME) {X:Cx} {E:XK} {Ra:L2.St→Prop} {N:List Str} {sc:Scope} (c:Cc X Pm ct n Ra E N sc) (e:Expr),chkE Pm me N sc e=true→Sd X ct Pm n Ra E me e
  | .var i,X,E,Ra,N,sc,c,e,h=>by
    have h:=chk_raw h
    cases e with
    | Name x p =>
      have h:(N[i]? == some x&&visB sc x)=true:=h
      simp only [Bool.and_eq_true,beq_iff_eq] at h
      exact Sd.of (both_val (pe_congr (e_var (by rw [c.nm]; exact h.1) (by rw [c.sc]; exact h.2)) fun σ hh=>by simp only [evalE]))
    | _=>exact ff h
  | .cI i,X,E,Ra,N,sc,c,e,h=>by
    have h:=chk_raw h
    cases e with
    | Constant k j p =>
      cases k with
      | int z =>
        have hz:i=z:=by simpa using (show (i == z)=true from h)
        subst hz
        exact Sd.of (both_val (pe_congr (e_const pe_int fun _ _ _=>rv_mkI _) fun σ hh=>by simp only [evalE]))
      | _=>exact ff h
    | _=>exact ff h
  | .cB i,X,E,Ra,N,sc,c,e,h=>by
    have h:=chk_raw h
    cases e with
    | Constant k j p =>
      cases k with
      | bool z =>
        have hz:i=z:=by simpa using (show (i == z)=true from h)
        subst hz
        exact Sd.of (both_val (pe_congr (e_const pe_bl fun _ _ _=>rv_mkB _) fun σ hh=>by simp only [evalE]))
      | _=>exact ff h
    | _=>exact ff h
  | .cN,X,E,Ra,N,sc,c,e,h=>by
    have h:=chk_raw h
    cases e with
    | Constant k j p =>
      cases k with
      | none =>
        exact Sd.of (both_val (pe_congr (e_const pe_non fun _ _ _=>rv_mkN) fun σ hh=>by simp only [evalE]))
      | _=>exact ff h
    | _=>exact ff h
  | .cS i,X,E,Ra,N,sc,c,e,h=>by
    have h:=chk_raw h
    cases e with
    | Constant k j p =>
      cases k with
      | str z =>
        have hz:i=z:=by simpa using (show (i == z)=true from h)
        subst hz
        exact Sd.of (both_val (pe_congr (e_const pe_str fun _ _ _=>rv_mkS _) fun σ hh=>by simp only [evalE]))
      | _=>exact ff h
    | _=>exact ff h
  | .bin fz op a b,X,E,Ra,N,sc,c,e,h=>by
    have h:=chk_raw h
    cases e with
    | BinOp l o r p =>
      have h:(o == mOp op&&chkE Pm a N sc l&&chkE Pm b N sc r)=true:=h
      simp only [Bool.and_eq_true,beq_iff_eq] at h
      obtain (⟨⟨rfl,h1⟩,h2⟩):=h
      exact Sd.of (both_val (pe_congr (e_bin fz op (sB a c l h1).1 (sB b c r h2).1) fun σ hh=>by simp only [evalE]))
    | _=>exact ff h
  | .neg a,X,E,Ra,N,sc,c,e,h=>by
    have h:=chk_raw h
    cases e with
    | UnaryOp o x p =>
      cases o with
      | USub=>exact Sd.of (both_val (pe_congr (e_neg (sB a c x (show chkE Pm a N sc x=true from h)).1) fun σ hh=>by simp only [evalE]))
      | _=>exact ff h
    | _=>exact ff h
  | .cmp op a b,X,E,Ra,N,sc,c,e,h=>by
    obtain (⟨l,o,r,p,rfl,g⟩):=cmp_of (show (match asCmp e with | some (l,o,r)=>o == mCmp op&&chkE Pm a N sc l&&chkE Pm b N sc r | none=>false)=true from chk_raw h)
    simp only [Bool.and_eq_true,beq_iff_eq] at g
    obtain (⟨⟨rfl,h1⟩,h2⟩):=g
    exact Sd.of (both_congr (e_cmp c.hK op c.units (sB a c l h1).1 (sB b c r h2).1 (chk_plain h2)) fun σ hh=>by simp only [evalE])
  | .isN a,X,E,Ra,N,sc,c,e,h=>by
    obtain (⟨l,o,r,p,rfl,g⟩):=cmp_of (show (match asCmp e with | some (l,o,r)=>o == .Is&&isNo r&&chkE Pm a N sc l | none=>false)=true from chk_raw h)
    simp only [Bool.and_eq_true,beq_iff_eq] at g
    obtain (⟨⟨rfl,h1⟩,h2⟩):=g
    obtain (⟨j,p2,rfl⟩):=isNo_eq h1
    exact Sd.of (both_congr (e_isN (sB a c l h2).1) fun σ hh=>by simp only [evalE])
  | .notN a,X,E,Ra,N,sc,c,e,h=>by
    obtain (⟨l,o,r,p,rfl,g⟩):=cmp_of (show (match asCmp e with | some (l,o,r)=>o == .IsNot&&isNo r&&chkE Pm a N sc l | none=>false)=true from chk_raw h)
    simp only [Bool.and_eq_true,beq_iff_eq] at g
    obtain (⟨⟨rfl,h1⟩,h2⟩):=g
    obtain (⟨j,p2,rfl⟩):=isNo_eq h1
    exact Sd.of (both_congr (e_notN (sB a c l h2).1) fun σ hh=>by simp only [evalE])
  | .and es,X,E,Ra,N,sc,c,e,h=>by
    have h:=chk_raw h
    cases e with
    | BoolOp o vs p =>
      cases o with
      | And =>
        have h:(es.all okT&&chkEs Pm es N sc vs)=true:=h
        rw [Bool.and_eq_true] at h
        obtain (⟨i1,i2⟩):=e_and (pos:=p) (sBs es c vs h.2) h.1
        exact Sd.of (both_congr ⟨i1,i2.pt⟩ fun σ hh=>by simp only [evalE])
      | _=>exact ff h
    | _=>exact ff h
  | .or es,X,E,Ra,N,sc,c,e,h=>by
    have h:=chk_raw h
    cases e with
    | BoolOp o vs p =>
      cases o with
      | Or =>
        have h:(es.all okT&&chkEs Pm es N sc vs)=true:=h
        rw [Bool.and_eq_true] at h
        obtain (⟨i1,i2⟩):=e_or (pos:=p) (sBs es c vs h.2) h.1
        exact Sd.of (both_congr ⟨i1,i2.pt⟩ fun σ hh=>by simp only [evalE])
      | _=>exact ff h
    | _=>exact ff h
  | .not a,X,E,Ra,N,sc,c,e,h=>by
    have h:=chk_raw h
    cases e with
    | UnaryOp o x p =>
      cases o with
      | Not =>
        have h:(okT a&&chkE Pm a N sc x)=true:=h
        rw [Bool.and_eq_true] at h
        obtain (⟨i1,i2⟩):=sB a c x h.2
        exact Sd.of (both_congr (e_not i1 (i2 h.1)) fun σ hh=>by simp only [evalE])
      | _=>exact ff h
    | _=>exact ff h
  | .ite d a b,X,E,Ra,N,sc,c,e,h=>by
    have h:=chk_raw h
    cases e with
    | IfExp t x y p =>
      have h:(okT d&&chkE Pm d N sc t&&chkE Pm a N sc x&&chkE Pm b N sc y)=true:=h
      simp only [Bool.and_eq_true] at h
      obtain (⟨⟨⟨h0,h1⟩,h2⟩,h3⟩):=h
      exact ⟨pe_congr (e_ite ((sB d c t h1).2 h0) (sB a c x h2).1 (sB b c y h3).1) fun σ hh=>by simp only [evalE],fun z=>Bool.noConfusion z⟩
    | _=>exact ff h
  | .tup es,X,E,Ra,N,sc,c,e,h=>by
    have h:=chk_raw h
    cases e with
    | Tuple vs k p =>
      have h:(decide (vs.length < 1000)&&chkEs Pm es N sc vs)=true:=h
      rw [Bool.and_eq_true] at h
      have b:=sBs es c vs h.2
      exact Sd.of (both_val (pe_congr (e_tup b.pa (len30 b (of_decide_eq_true h.1))) fun σ hh=>by simp only [evalE]))
    | _=>exact ff h
  | .lst fz es,X,E,Ra,N,sc,c,e,h=>by
    have h:=chk_raw h
    cases e with
    | List vs p =>
      have h:(decide (vs.length < 1000)&&chkEs Pm es N sc vs)=true:=h
      rw [Bool.and_eq_true] at h
      have b:=sBs es c vs h.2
      exact Sd.of (both_val (pe_congr (e_lst fz b.pa (len30 b (of_decide_eq_true h.1))) fun σ hh=>by simp only [evalE]))
    | _=>exact ff h
  | .sub a i,X,E,Ra,N,sc,c,e,h=>by
    have h:=chk_raw h
    cases e with
    | Subscript x y p =>
      have h:(chkE Pm a N sc x&&chkE Pm i N sc y)=true:=h
      rw [Bool.and_eq_true] at h
      exact Sd.of (both_val (pe_congr (e_sub c.hK (sB a c x h.1).1 (sB i c y h.2).1 (chk_plain h.2)) fun σ hh=>by simp only [evalE]))
    | _=>exact ff h
  | .slice fz a lo hi,X,E,Ra,N,sc,c,e,h=>by
    have h:=chk_raw h
    cases e with
    | Subscript x y p =>
      cases y with
      | Slice l u st p2 =>
        cases st with
        | none =>
          have h:(chkE Pm a N sc x&&chkO Pm lo N sc l&&chkO Pm hi N sc u)=true:=h
          simp only [Bool.and_eq_true] at h
          obtain (⟨⟨h1,h2⟩,h3⟩):=h
          exact Sd.of (both_val (pe_congr (e_slice c.hK fz (sB a c x h1).1 (sBo lo c l h2) (sBo hi c u h3)) fun σ hh=>by simp only [evalE]))
        | some _=>exact ff h
      | _=>exact ff h
    | _=>exact ff h
  | .fld a f,X,E,Ra,N,sc,c,e,h=>by
    have h:=chk_raw h
    cases e with
    | Attribute x m p =>
      have h:(m == Str.ofString f&&notCall0 x&&chkE Pm a N sc x)=true:=h
      simp only [Bool.and_eq_true,beq_iff_eq] at h
      obtain (⟨⟨rfl,h1⟩,h2⟩):=h
      exact Sd.of (both_val (pe_congr (e_fld c.txt (sB a c x h2).1 h1) fun σ hh=>by simp only [evalE]))
    | _=>exact ff h
  | .call f es,X,E,Ra,N,sc,c,e,h=>by
    have h:=chk_raw h
    cases e with
    | Call g as ks p =>
      cases g with
      | Name x p2 =>
        cases as with
        | nil=>exact ff h
        | cons v vs =>
          cases ks with
          | cons _ _=>exact ff h
          | nil =>
            have h:(x == Str.ofString f&&gl sc x&&!(f.toList.contains '.')&&(Pm.defs f).isSome&&chkEs Pm es N sc (v::vs))=true:=h
            simp only [Bool.and_eq_true,beq_iff_eq,Bool.not_eq_true'] at h
            obtain (⟨⟨⟨⟨rfl,h1⟩,h2⟩,h3⟩,h4⟩):=h
            obtain (⟨d,hd⟩):=Option.isSome_iff_exists.mp h3
            have b:=sBs es c (v::vs) h4
            exact Sd.of (both_val (pe_congr (e_call c hd h2 h1 b.pa b.plain) fun σ hh=>by simp only [evalE]))
      | _=>exact ff h
    | _=>exact ff h
  | .make fz cn es,X,E,Ra,N,sc,c,e,h=>by
    have h:=chk_raw h
    cases e with
    | Call g as ks p =>
      cases g with
      | Name x p2 =>
        cases as with
        | nil =>
          cases ks with
          | cons _ _=>cases es <;> exact ff h
          | nil =>
            cases es with
            | cons _ _=>exact ff h
            | nil =>
              have h:(x == Str.ofString cn&&gl sc x&&Pm.mk0 cn&&(Pm.meths cn "__init__").isNone)=true:=h
              simp only [Bool.and_eq_true,beq_iff_eq,Option.isNone_iff_eq_none] at h
              obtain (⟨⟨⟨rfl,h1⟩,h3⟩,h4⟩):=h
              exact Sd.of (both_val (pe_congr (e_make0 fz c h3 h4 h1) fun σ hh=>by simp only [evalE,evalEs]))
        | cons v vs =>
          cases ks with
          | cons _ _=>exact ff h
          | nil =>
            have h:(x == Str.ofString cn&&gl sc x&&(Pm.meths cn "__init__").isSome&&chkEs Pm es N sc (v::vs))=true:=h
            simp only [Bool.and_eq_true,beq_iff_eq] at h
            obtain (⟨⟨⟨rfl,h1⟩,h3⟩,h4⟩):=h
            obtain (⟨d,hd⟩):=Option.isSome_iff_exists.mp h3
            have b:=sBs es c (v::vs) h4
            exact Sd.of (both_val (pe_congr (e_make fz c hd h1 b.pa b.plain) fun σ hh=>by simp only [evalE]))
      | _=>exact ff h
    | _=>exact ff h
  | .meth o m es,X,E,Ra,N,sc,c,e,h=>ff (chk_raw h)
  | .blt fz id es,X,E,Ra,N,sc,c,e,h=>by
    have h:=chk_raw h
    cases e with
    | Call g as ks p =>
      cases g with
      | Name x p2 =>
        cases as with
        | nil=>exact ff h
        | cons v vs =>
          cases ks with
          | cons _ _=>exact ff h
          | nil =>
            have h:(x == Str.ofString id&&gl sc x&&(fnNames.contains id || tyNames.contains id)&&chkEs Pm es N sc (v::vs))=true:=h
            simp only [Bool.and_eq_true,beq_iff_eq,Bool.or_eq_true] at h
            obtain (⟨⟨⟨rfl,h1⟩,h2⟩,h4⟩):=h
            have b:=sBs es c (v::vs) h4
            exact Sd.of (both_val (pe_congr (e_blt fz c (by simpa using h2) h1 b.pa b.plain) fun σ hh=>by simp only [evalE]))
      | _=>exact ff h
    | _=>exact ff h
  | .isI a t,X,E,Ra,N,sc,c,e,h=>by
    obtain (⟨x,v,y,p1,p2,p3,rfl,g⟩):=is_of (show (match isForm e with | some (x,v,y)=>x == ("isinstance":Str)&&gl sc x&&y == Str.ofString t&&gl sc y&&(isTys.contains t || (Pm.subs t t).isSome)&&chkE Pm a N sc v | none=>false)=true from chk_raw h)
    simp only [Bool.and_eq_true,beq_iff_eq,Bool.or_eq_true] at g
    obtain (⟨⟨⟨⟨⟨rfl,h1⟩,rfl⟩,h2⟩,h3⟩,h4⟩):=g
    exact Sd.of (both_val (pe_congr (e_isI c h3 h1 h2 (sB a c v h4).1 (chk_plain h4)) fun σ hh=>by simp only [evalE]))
  | .tx1 o a,X,E,Ra,N,sc,c,e,h=>by
    replace h:=chk_raw h
    cases hs:t1S o with
    | false =>
      cases o with
      | setl =>
        replace h:(match srtForm e with | some (x,y,v)=>x == ("len":Str)&&gl sc x&&y == ("set":Str)&&gl sc y&&chkE Pm a N sc v | none=>false)=true:=h
        split at h
        next x y v w =>
          obtain (⟨p1,p2,p3,p,rfl⟩):=srtForm_eq w
          simp only [Bool.and_eq_true,beq_iff_eq] at h
          obtain (⟨⟨⟨⟨rfl,h1⟩,rfl⟩,h2⟩,h3⟩):=h
          exact Sd.of (both_val (pe_congr (e_setl c h1 h2 (sB a c v h3).1 (chk_plain h3)) fun σ hh=>by simp only [evalE]))
        next=>exact ff h
      | _=>cases hs
    | true =>
      have bad:(∀ x np v p,e≠.Call (.Name x np) [v] [] p)→False:=fun q=>by
        cases o with
        | setl=>cases hs
        | _ =>
          cases e with
          | Call f as ks p =>
            cases f with
            | Name x np =>
              rcases as with _ | ⟨v,_ | ⟨v2,as⟩⟩
              · exact Bool.noConfusion h
              · cases ks with
                | nil=>exact q _ _ _ _ rfl
                | cons _ _=>exact Bool.noConfusion h
              · exact Bool.noConfusion h
            | _=>exact Bool.noConfusion h
          | _=>exact Bool.noConfusion h
      by_cases q:∃ x np v p,e=.Call (.Name x np) [v] [] p
      · obtain (⟨x,np,v,p,rfl⟩):=q
        have hq:(x == t1N o&&gl sc x&&chkE Pm a N sc v)=true:=by
          cases o with
          | setl=>cases hs
          | _=>exact h
        simp only [Bool.and_eq_true,beq_iff_eq] at hq
        obtain (⟨⟨h0,h1⟩,h2⟩):=hq
        exact Sd.of (both_val (pe_congr (e_tx1 c hs h0 h1 (sB a c v h2).1 (chk_plain h2)) fun σ hh=>by simp only [evalE]))
      · exact (bad fun x np v p z=>q ⟨x,np,v,p,z⟩).elim
  | .tx2 o a b,X,E,Ra,N,sc,c,e,h=>by
    replace h:=chk_raw h
    cases o with
    | idx =>
      obtain (⟨x,ap,v,cp,rfl,h1,h2,h3,h4⟩):∃ x ap v cp,e=.Call (.Attribute x "index" ap) [v] [] cp∧notCall0 x=true∧(ap.endLine == cp.line)=true∧chkE Pm a N sc x=true∧chkE Pm b N sc v=true:=by
        cases e with
        | Call f as ks p =>
          cases f with
          | Attribute x n ap =>
            rcases as with _ | ⟨v,_ | ⟨v2,as⟩⟩
            · exact ff h
            · cases ks with
              | nil =>
                replace h:(n == ("index":Str)&&notCall0 x&&(ap.endLine == p.line)&&chkE Pm a N sc x&&chkE Pm b N sc v)=true:=h
                simp only [Bool.and_eq_true,beq_iff_eq] at h
                obtain (⟨⟨⟨⟨rfl,h1⟩,h2⟩,h3⟩,h4⟩):=h
                exact ⟨x,ap,v,p,rfl,h1,by simpa using h2,h3,h4⟩
              | cons _ _=>exact ff h
            · exact ff h
          | _=>exact ff h
        | _=>exact ff h
      exact Sd.of (both_val (pe_congr (e_idx (sB a c x h3).1 (sB b c v h4).1 h1 (chk_plain h4) h2) fun σ hh=>by simp only [evalE,t2g]))
  | .nearK a b,X,E,Ra,N,sc,c,e,h=>by
    replace h:=chk_raw h
    cases e <;> exact ff h
  | .lm m o es,X,E,Ra,N,sc,c,e,h=>by
    have h:=chk_raw h
    cases e with
    | Call g as ks p =>
      cases g with
      | Attribute x nm ap =>
        cases ks with
        | cons _ _=>exact ff h
        | nil =>
          have h:(nm == Str.ofString m&&notCall0 x&&(ap.endLine == p.line)&&chkE Pm o N sc x&&chkEs Pm es N sc as&&(if as.isEmpty then lm0Names.contains m else lmNames.contains m&&decide (as.length < 30)))=true:=h
          simp only [Bool.and_eq_true,beq_iff_eq] at h
          obtain (⟨⟨⟨⟨⟨rfl,h1⟩,h2⟩,h3⟩,h4⟩,h5⟩):=h
          have b:=sBs es c as h4
          have ho:=(sB o c x h3).1
          have hl:(ap.endLine == p.line)=true:=by simpa using h2
          cases as with
          | nil =>
            cases es with
            | cons _ _=>exact b.elim
            | nil =>
              have h5':m∈lm0Names:=by simpa using h5
              simp only [lm0Names,List.mem_cons,List.not_mem_nil,or_false] at h5'
          | cons v vs =>
            have h5':m∈lmNames∧(v::vs).length < 30:=by simpa using h5
            obtain (⟨h6,h7⟩):=h5'
            simp only [lmNames,List.mem_cons,List.not_mem_nil,or_false] at h6
            rcases h6 with rfl | rfl | rfl
            · exact Sd.of (both_val (pe_congr (e_lm1 PySem.F.slot_list_append PySem.F.type_list_append ml_append ho h1 b.pa b.plain h7 hl) fun σ hh=>by simp only [evalE]))
            · exact Sd.of (both_val (pe_congr (e_lm1 PySem.F.slot_list_extend PySem.F.type_list_extend ml_extend ho h1 b.pa b.plain h7 hl) fun σ hh=>by simp only [evalE]))
            · exact Sd.of (both_val (pe_congr (e_lm1 PySem.F.slot_list_pop PySem.F.type_list_pop ml_pop ho h1 b.pa b.plain h7 hl) fun σ hh=>by simp only [evalE]))
      | _=>exact ff h
    | _=>exact ff h
  | .comp fz elt tg it src cond ncv js,X,E,Ra,N,sc,c,e,h=>by
    have h:=chk_raw h
    cases e with
    | ListComp x gs cs p =>
      rcases gs with _ | ⟨⟨t,iter,ifs,a⟩,_ | ⟨g2,gs⟩⟩
      · exact ff h
      · have h:((a == 0)&&plainE iter&&compOkB sc N cs (tgN tg t++js.filterMap fun j=>N[j]?) ncv js&&decide (tgN tg t++js.filterMap fun j=>N[j]?).Nodup&&chkT (ownC cs) (tgN tg t++js.filterMap fun j=>N[j]?) (relabS cs sc) tg t&&chkE Pm elt (tgN tg t++js.filterMap fun j=>N[j]?) (relabS cs sc) x&&chkC Pm cond (tgN tg t++js.filterMap fun j=>N[j]?) (relabS cs sc) ifs&&(if it == "seq" then chkS Pm src N sc iter else if it == "signs" then false else if it == "enum1" then false else chkIt t it iter&&gl sc (Str.ofString it)&&chkEs Pm src N sc (srcArgs iter)))=true:=h
        simp only [Bool.and_eq_true,beq_iff_eq,decide_eq_true_eq] at h
        obtain (⟨⟨⟨⟨⟨⟨⟨ha,h1⟩,h2⟩,h3⟩,h4⟩,h5⟩,h6⟩,h7⟩):=h
        subst ha
        have hi:PI X t iter (lI ct Ra E (evalEs Pm (run Pm n) src) it):=by
          split at h7
          next hs =>
            subst hs
            exact sBi src c t iter h7
          next hs =>
            split at h7
            next hs4 =>
              subst hs4
              exact ff h7
            next =>
            split at h7
            next hs2 =>
              exact ff h7
            next =>
              simp only [Bool.and_eq_true] at h7
              obtain (⟨⟨k1,k2⟩,k3⟩):=h7
              exact sI_of c k1 k2 (sBs src c (srcArgs iter) k3)
        exact Sd.of (both_val (pe_congr (e_comp fz (by rw [c.sc,c.nm]; exact h2) c.calm hi (fun C s3 H ex=>sG rfl (c.comp h3 C s3 H ex).sc h3 c.calm (fun _ z=>z) tg t h4) (fun C s3 H ex=>sBc cond (c.comp h3 C s3 H ex) ifs h6) (fun C s3 H ex=>(sB elt (c.comp h3 C s3 H ex) x h5).1) h1) fun σ hh=>by simp only [evalE]))
      · exact ff h
    | _=>exact ff h
  | .frz m,X,E,Ra,N,sc,c,e,h=>by
    have h:=chk_raw h
    have h':chkE Pm m N sc e=true:=h
    exact ⟨pe_congr (e_frz (sB m c e h').1) fun σ hh=>by simp only [evalE],fun z=>Bool.noConfusion z⟩
theorem sBs:∀ (mes:List ME) {X:Cx} {E:XK} {Ra:L2.St→Prop} {N:List Str} {sc:Scope} (c:Cc X Pm ct n Ra E N sc) (es:List Expr),chkEs Pm mes N sc es=true→Bo ct X Ra E Pm n mes es
  | [],X,E,Ra,N,sc,c,es,h=>by
    cases es with
    | nil=>trivial
    | cons e es=>exact ff h
  | m::ms,X,E,Ra,N,sc,c,es,h=>by
    cases es with
    | nil=>exact ff h
    | cons e es =>
      have h:=chkEs_cons h
      exact ⟨⟨chk_plain h.1,sB m c e h.1⟩,sBs ms c es h.2⟩
theorem sBi:∀ (mes:List ME) {X:Cx} {E:XK} {Ra:L2.St→Prop} {N:List Str} {sc:Scope} (c:Cc X Pm ct n Ra E N sc) (t e:Expr),chkS Pm mes N sc e=true→PI X t e (lI ct Ra E (evalEs Pm (run Pm n) mes) "seq")
  | [],X,E,Ra,N,sc,c,t,e,h=>ff h
  | [m],X,E,Ra,N,sc,c,t,e,h=>by
    have h:chkE Pm m N sc e=true:=h
    have:=sI_seq c.hK (tg:=t) (sB m c e h).1
    have e2:evalEs Pm (run Pm n) [m]=fun σ hh=>(evalE Pm (run Pm n) m σ hh).bind fun x h1=>.ok [x] h1:=by
      funext σ hh
      simp only [evalEs] <;> rfl
    rw [e2]; exact this
  | _::_::_,X,E,Ra,N,sc,c,t,e,h=>ff h
theorem sBo:∀ (mo:Option ME) {X:Cx} {E:XK} {Ra:L2.St→Prop} {N:List Str} {sc:Scope} (c:Cc X Pm ct n Ra E N sc) (eo:Option Expr),chkO Pm mo N sc eo=true→PO X eo (lO ct Ra E (evalO Pm (run Pm n) mo))
  | none,X,E,Ra,N,sc,c,eo,h=>by
    cases eo with
    | none =>
      refine PO.imp po_none fun σ H Q q=>?_
      obtain ⟨μ,hh,σs,rel,rst,ra,p⟩:=q
      simp only [evalO] at p
      exact p.now rel
    | some e=>exact ff h
  | some m,X,E,Ra,N,sc,c,eo,h=>by
    cases eo with
    | none=>exact ff h
    | some e =>
      have h:chkE Pm m N sc e=true:=h
      refine PO.imp (po_some (sB m c e h).1) fun σ H Q q=>?_
      obtain ⟨μ,hh,σs,rel,rst,ra,p⟩:=q
      simp only [evalO] at p
      refine lE.mk rel rst ra p fun x v μ1 h1 H1 ex rel1 rst1 rv p1=>?_
      obtain ⟨i,e,p2⟩:=Po.opt p1
      have:=intOf_eq e; subst this
      exact ⟨i,rv_int rv,p2.now rel1⟩
theorem sBc:∀ (mo:Option ME) {X:Cx} {E:XK} {Ra:L2.St→Prop} {N:List Str} {sc:Scope} (c:Cc X Pm ct n Ra E N sc) (es:List Expr),chkC Pm mo N sc es=true→PIf X es (lT ct Ra E (evalC Pm (run Pm n) mo))
  | none,X,E,Ra,N,sc,c,es,h=>by
    cases es with
    | nil =>
      refine PIf.imp pif_nil fun σ H Q q=>?_
      obtain ⟨μ,hh,σs,rel,rst,ra,p⟩:=q
      simp only [evalC] at p
      exact p.now rel
    | cons e es=>exact ff h
  | some m,X,E,Ra,N,sc,c,es,h=>by
    rcases es with _ | ⟨e,_ | ⟨e2,es⟩⟩
    · exact ff h
    · have h:(okT m&&chkE Pm m N sc e)=true:=h
      rw [Bool.and_eq_true] at h
      have e2:evalC Pm (run Pm n) (some m)=tst (evalE Pm (run Pm n) m):=by
        funext σ hh
        simp only [evalC,tst]
      rw [e2]
      exact pif_one ((sB m c e h.2).2 h.1)
    · exact ff h
end
end SD
end
section
set_option maxHeartbeats 4000000
namespace SD
open PySem PySem.Spec PyProof.Rows L2 L3 M3 MP
noncomputable def PoS (ct:Tx) (E:XK) (r:RS) (μ:List Addr) (h:MH) (H:Hp) (D:Ends):Prop:=match r with
  | .next σ' h'=>∀ μ' H' σ,Ext μ h H μ' h' H'→Rel ct μ' h' H'→RelSt ct μ' h' H' σ σ'→D.nx σ H'
  | .ret m h'=>∀ μ' H' v,Ext μ h H μ' h' H'→Rel ct μ' h' H'→RV ct μ' (Liv μ' h') H' m v→D.rt v H'
  | .brk σ' h'=>∀ μ' H' σ,Ext μ h H μ' h' H'→Rel ct μ' h' H'→RelSt ct μ' h' H' σ σ'→D.bk σ H'
  | .cnt σ' h'=>∀ μ' H' σ,Ext μ h H μ' h' H'→Rel ct μ' h' H'→RelSt ct μ' h' H' σ σ'→D.ct σ H'
  | .exc c h'=>∀ μ' H',Ext μ h H μ' h' H'→Rel ct μ' h' H'→E (.ref (ct c)) none H'
  | .stuck=>False
noncomputable def lS (ct:Tx) (Ra:L2.St→Prop) (E:XK) (ex:MSt→MH→RS):TS:=fun D σ H=>∃ μ h σs,Rel ct μ h H∧RelSt ct μ h H σ σs∧Ra σ∧PoS ct E (ex σs h) μ h H D
section
variable {ct:Tx} {Pm:Prog} {n:Nat} {X:Cx} {E:XK} {Ra:L2.St→Prop} {N:List Str} {sc:Scope}
section
variable {μ μ1:List Addr} {h h1:MH} {H H1:Hp} {D:Ends} {α:Type}
theorem PoS.start {r:RS} (e:Ext μ h H μ1 h1 H1) (p:PoS ct E r μ h H D):PoS ct E r μ1 h1 H1 D:=by
  cases r with
  | next σ' h'=>exact fun μ' H' σ e' r' q=>p μ' H' σ (e.trans e') r' q
  | ret m h'=>exact fun μ' H' v e' r' q=>p μ' H' v (e.trans e') r' q
  | brk σ' h'=>exact fun μ' H' σ e' r' q=>p μ' H' σ (e.trans e') r' q
  | cnt σ' h'=>exact fun μ' H' σ e' r' q=>p μ' H' σ (e.trans e') r' q
  | exc c h'=>exact fun μ' H' e' r'=>p μ' H' (e.trans e') r'
  | stuck=>exact p
theorem PoS.st {r:R α} {k:α→MH→RS} (p:PoS ct E (r.st k) μ h H D):Po ct E r μ h H fun x μ1 h1 H1=>Ext μ h H μ1 h1 H1∧Rel ct μ1 h1 H1∧PoS ct E (k x h1) μ1 h1 H1 D:=by
  cases r with
  | ok x h'=>exact fun μ' H' e' r'=>⟨e',r',PoS.start (r:=k x h') e' p⟩
  | exc c h'=>exact p
  | stuck=>exact p
theorem PoS.opt {o:Option α} {k:α→RS} (p:PoS ct E (optS o k) μ h H D):∃ x,o=some x∧PoS ct E (k x) μ h H D:=by
  cases o with
  | none=>exact p.elim
  | some x=>exact ⟨x,rfl,p⟩
end
section
variable {μ:List Addr} {h:MH} {H:Hp} {σ:L2.St} {σs:MSt} {D:Ends}
theorem lE.st {ev:MSt→MH→R MV} {k:MV→MH→RS} {Q:VK} (rel:Rel ct μ h H) (rst:RelSt ct μ h H σ σs) (ra:Ra σ) (p:PoS ct E ((ev σs h).st k) μ h H D)
    (f:∀ m v μ1 h1 H1,Ext μ h H μ1 h1 H1→Rel ct μ1 h1 H1→RelSt ct μ1 h1 H1 σ σs→RV ct μ1 (Liv μ1 h1) H1 m v→PoS ct E (k m h1) μ1 h1 H1 D→Q v H1):lE ct Ra E ev σ H Q :=
  ⟨μ,h,σs,rel,rst,ra,(PoS.st p).imp fun m μ1 h1 H1 ⟨e1,r1,p1⟩ v rv=>f m v μ1 h1 H1 e1 r1 (rst.ext e1) rv p1⟩
end
structure Cs (X:Cx) (Pm:Prog) (ct:Tx) (n:Nat) (E:XK) (N:List Str) (sc:Scope):Prop where
  cc:Cc X Pm ct n (fun _=>True) E N sc
  ex:X.ex=[]
  own:PassesOwn (model X.prog X.w) X.A X.env X.xe
  tk:Takes X E
  fn:∀ x,X.fn x=true
  kd:X.env.scope.kind=.function
  stk:X.stack=X.env::X.outer
  fr:X.env.frame=some X.env.locals
section
variable {ea eb ec:MSt→MH→R MV} {a b c:Expr} {pos p2:Pos}
noncomputable def isLC:Expr→Bool
  | .ListComp ..=>true
  | .SetComp ..=>true
  | .DictComp ..=>true
  | _=>false
theorem sw_plain {e:Expr} {t:Option Expr} {l:Nat} {env:Env} (h:isLC e=false):swapsWith e t l env=pure false:=by
  cases e <;> first | rfl | (simp [isLC] at h)
theorem sw_of {e t:Expr} {l:Nat} {env:Env} (h1:∀ x gs cs p,swapsWith (.ListComp x gs cs p) (some t) l env=pure false) (h2:∀ x gs cs p,swapsWith (.SetComp x gs cs p) (some t) l env=pure false) (h3:∀ x y gs cs p,swapsWith (.DictComp x y gs cs p) (some t) l env=pure false):swapsWith e (some t) l env=pure false:=by
  cases hl:isLC e with
  | false=>exact sw_plain hl
  | true =>
    cases e with
    | ListComp x gs cs p=>exact h1 _ _ _ _
    | SetComp x gs cs p=>exact h2 _ _ _ _
    | DictComp x y gs cs p=>exact h3 _ _ _ _ _
    | _=>exact Bool.noConfusion (show false=true from hl)
theorem sw_lc {x:Expr} {gs:List Comprehension} {cs:Scope} {p:Pos} {t:Expr} {l:Nat} {env:Env} (h:∀ x p,t≠.Name x p):swapsWith (.ListComp x gs cs p) (some t) l env=pure false:=by
  cases t with
  | Name x p=>exact absurd rfl (h x p)
  | _=>rfl
theorem s_expr (ha:PE X a (lE ct Ra E ea)) (hl:isLC a=false):PS X (.Expr a pos) (lS ct Ra E fun σ h=>(ea σ h).st fun _ h1=>.next σ h1):=PS.imp (ps_expr ha (sw_plain hl)) fun D σ H q=>by
  obtain ⟨μ,h,σs,rel,rst,ra,p⟩:=q
  exact lE.st rel rst ra p fun m v μ1 h1 H1 ex rel1 rst1 rv p1=>p1 μ1 H1 σ (Ext.refl _ _ _) rel1 rst1
theorem s_ret (ha:PE X a (lE ct Ra E ea)):PS X (.Return (some a) pos) (lS ct Ra E fun σ h=>(ea σ h).st fun v h1=>.ret v h1):=PS.imp (ps_ret ha) fun D σ H q=>by
  obtain ⟨μ,h,σs,rel,rst,ra,p⟩:=q
  exact lE.st rel rst ra p fun m v μ1 h1 H1 ex rel1 rst1 rv p1=>p1 μ1 H1 v (Ext.refl _ _ _) rel1 rv
theorem s_if {x y:List Stmt} {ex ey:MSt→MH→RS} (tc:PT X c (lT ct Ra E (tst ec))) (hx:PSs X x (lS ct Ra E ex)) (hy:PSs X y (lS ct Ra E ey)) :
    PS X (.If c x y pos) (lS ct Ra E fun σ h=>(ec σ h).st fun v h1=>optS (blOf v) fun k=>if k=true then ex σ h1 else ey σ h1):=PS.imp (ps_if tc hx hy) fun D σ H q=>by
  obtain ⟨μ,h,σs,rel,rst,ra,p⟩:=q
  have p':PoS ct E ((tst ec σs h).st fun k h1=>if k=true then ex σs h1 else ey σs h1) μ h H D:=by
    dsimp only [tst] at p ⊢
    cases er:ec σs h with
    | stuck=>rw [er] at p; exact p
    | exc c h'=>rw [er] at p; exact p
    | ok x h' =>
      rw [er] at p
      simp only [R.bind_ok,R.st_ok] at p ⊢
      cases eb:blOf x with
      | none=>rw [eb] at p; exact p.elim
      | some k=>rw [eb] at p; exact p
  refine ⟨μ,h,σs,rel,rst,ra,(PoS.st p').imp fun k μ1 h1 H1 ⟨ex1,rel1,p1⟩=>?_⟩
  cases k with
  | true=>exact ⟨μ1,h1,σs,rel1,rst.ext ex1,ra,p1⟩
  | false=>exact ⟨μ1,h1,σs,rel1,rst.ext ex1,ra,p1⟩
theorem s_set {tg:Tg} (c:Cs X Pm ct n E N sc) (ht:chkT yesN N sc tg b=true) (ha:PE X a (lE ct (fun _=>True) E ea)) (hs:swapsWith a (some b) pos.line X.env=pure false) (hw:swappedStores [b] a X.env=pure none) :
    PS X (.Assign [b] a pos) (lS ct (fun _=>True) E fun σ h=>(ea σ h).st fun v h1=>optS (bindT tg v σ) fun σ1=>.next σ1 h1):=by
  refine PS.imp (ps_asg ha (sG (ct:=ct) c.cc.nm c.cc.sc c.cc.nd c.cc.calm (fun x _=>c.fn x) tg b ht) hs hw (by rw [chkT_star ht [] X.env]; rfl)) fun D σ H q=>?_
  obtain ⟨μ,h,σs,rel,rst,ra,p⟩:=q
  refine lE.st rel rst ra p fun m v μ1 h1 H1 ex rel1 rst1 rv p1=>?_
  obtain ⟨σ1,e,p2⟩:=PoS.opt p1
  exact ⟨μ1,h1,σs,m,σ1,rel1,rst1,rv,e,fun σ' rst'=>p2 μ1 H1 σ' (Ext.refl _ _ _) rel1 rst'⟩
theorem assign_sub {o i : Expr} {env : Env} (hp : plainE i = true) : ∀ v, assign (.Subscript o i pos) env v = (do
      let ov←holding [v] (eval o env)
      let iv←holding [v,ov] (eval i env)
      standAt pos
      holding [v,ov,iv] (setItem ov iv v)
      release [v,ov,iv] []):=by
  intro v
  cases i <;> first | rfl | (simp [plainE] at hp)
theorem s_setSub {o i:Expr} (ha:PE X a (lE ct Ra E ea)) (ho:PE X o (lE ct Ra E eb)) (hi:PE X i (lE ct Ra E ec)) (hp:plainE i=true) :
    PS X (.Assign [.Subscript o i p2] a pos) (lS ct Ra E fun σ h=>(ea σ h).st fun v h1=>(eb σ h1).st fun x h2=>(ec σ h2).st fun y h3 =>
      match x with
      | .ref a=>optS (cellL h3 a) fun xs=>optS (intOf y) fun k=>optS (ixM xs.length k) fun j=>.next σ (setCell h3 a (xs.set j v))
      | _=>.stuck):=by
  refine PS.imp (ps_asg ha (pg_sub ho hi set_list (assign_sub hp)) (show swapsWithSole [Expr.Subscript o i p2] a pos.line X.env=pure false from sw_of (e:=a) (t:=.Subscript o i p2) (l:=pos.line) (env:=X.env) (fun _ _ _ _=>rfl) (fun _ _ _ _=>rfl) (fun _ _ _ _ _=>rfl)) (by cases a <;> rfl) rfl) fun D σ H q=>?_
  obtain ⟨μ,h,σs,rel,rst,ra,p⟩:=q
  refine lE.st rel rst ra p fun m v μ1 h1 H1 ex1 rel1 rst1 rv p1=>?_
  refine lE.st rel1 rst1 ra p1 fun m2 v2 μ2 h2 H2 ex2 rel2 rst2 rv2 p2=>?_
  refine lE.st rel2 rst2 ra p2 fun m3 v3 μ3 h3 H3 ex3 rel3 rst3 rv3 p3=>?_
  cases m2 with
  | ref i0 =>
    obtain ⟨xs,e1,p4⟩:=PoS.opt p3
    obtain ⟨k,e2,p5⟩:=PoS.opt p4
    obtain ⟨j,e3,p6⟩:=PoS.opt p5
    have:=intOf_eq e2; subst this
    obtain ⟨b',vs,eb',hb,rs⟩:=rel3.lst e1
    have rv2':=rv2.ext ex3
    simp only [RV] at rv2'
    obtain ⟨b0,eb0,rfl⟩:=rv2'
    rw [eb'] at eb0; cases eb0
    have e4:=cellL_some e1
    have ex4:=Ext.set (H:=H3) rel3 eb' e4 (fun z=>nomatch z) (.lst (xs.set j m)) (.lst (vs.set j v))
    refine ⟨b',vs,k,j,rfl,rv_int rv3,hb,by rw [rs.length,← ixM_eq]; exact e3,?_⟩
    refine p6 μ3 _ σ ex4 (rel3.set eb' e4 (fun z=>nomatch z) ⟨_,upd_same,?_⟩) (rst3.ext ex4)
    exact RVs.set (((rv.ext ex2).ext ex3).ext ex4) j (rs.ext ex4)
  | f _=>exact p3.elim
  | tup _=>exact p3.elim
  | exc _=>exact p3.elim
theorem setF_rel {μ:List Addr} {L:Addr→Prop} {H:Hp} {f:String} {m:MV} {v:V} (r:RV ct μ L H m v):∀ {fs:List (String×MV)} {gs:List (Str×V)},gs.map Prod.fst=fs.map (fun p=>Str.ofString p.1)→RVs ct μ L H (fs.map Prod.snd) (gs.map Prod.snd) →
    (putF (Str.ofString f) v gs).map Prod.fst=(setF f m fs).map (fun p=>Str.ofString p.1)∧RVs ct μ L H ((setF f m fs).map Prod.snd) ((putF (Str.ofString f) v gs).map Prod.snd)
  | [],gs,h1,h2=>by
    cases gs with
    | nil=>exact ⟨rfl,RVs.cons r RVs.nil⟩
    | cons p gs=>simp at h1
  | (k,y)::fs,gs,h1,h2=>by
    cases gs with
    | nil=>simp at h1
    | cons p gs =>
      obtain ⟨k',u⟩:=p
      simp only [List.map_cons,List.cons.injEq] at h1
      obtain ⟨rfl,h3⟩:=h1
      simp only [List.map_cons,RVs] at h2
      obtain ⟨w,t,e,q1,q2⟩:=h2
      cases e
      unfold putF setF
      by_cases hk:k=f
      · subst hk
        rw [if_pos rfl,if_pos rfl]
        exact ⟨by simp [h3],by simp only [List.map_cons]; exact RVs.cons r q2⟩
      · rw [if_neg hk,if_neg (fun z=>hk (ofString_inj z))]
        obtain ⟨i1,i2⟩:=setF_rel (f:=f) r h3 q2
        exact ⟨by simp [i1],by simp only [List.map_cons]; exact RVs.cons q1 i2⟩
theorem s_setFld {o:Expr} {f:String} (T:Txt X.prog X.w X.K X.mg X.base Pm ct n) (ha:PE X a (lE ct Ra E ea)) (ho:PE X o (lE ct Ra E eb)) :
    PS X (.Assign [.Attribute o (Str.ofString f) p2] a pos) (lS ct Ra E fun σ h=>(ea σ h).st fun v h1=>(eb σ h1).st fun x h2=>match x with
      | .ref a=>match h2[a]? with
        | some (.obj c fs)=>if Pm.fok c f=true∧fs.length < 100 then .next σ (h2.set a (.obj c (setF f v fs))) else .stuck
        | _=>.stuck
      | _=>.stuck):=by
  refine PS.imp (ps_fld ho ha (sw_of (fun _ _ _ _=>rfl) (fun _ _ _ _=>rfl) (fun _ _ _ _ _=>rfl))) fun D σ H q=>?_
  obtain ⟨μ,h,σs,rel,rst,ra,p⟩:=q
  refine lE.st rel rst ra p fun m v μ1 h1 H1 ex1 rel1 rst1 rv p1=>?_
  refine lE.st rel1 rst1 ra p1 fun m2 v2 μ2 h2 H2 ex2 rel2 rst2 rv2 p2=>?_
  cases m2 with
  | ref i0 =>
    dsimp only at p2
    split at p2
    next c fs ec =>
      split at p2
      next ok =>
        obtain ⟨ok1,ok2⟩:=ok
        obtain ⟨b,dx,gs,eb,hb,q1,q2⟩:=rel2.obj ec
        simp only [RV] at rv2
        obtain ⟨b0,eb0,rfl⟩:=rv2
        rw [eb] at eb0; cases eb0
        obtain ⟨t1,t2⟩:=T.fok c f ok1
        have hl:gs.length=fs.length:=by have:=congrArg List.length q1; simpa using this
        have ex3:=Ext.set (H:=H2) rel2 eb ec (fun z=>nomatch z) (.obj c (setF f m fs)) (.ins (ct c) dx (putF (Str.ofString f) v gs))
        refine ⟨b,ct c,dx,gs,rfl,hb,t1,t2,by lia,?_⟩
        obtain ⟨s1,s2⟩:=setF_rel (f:=f) ((rv.ext ex2).ext ex3) q1 (q2.ext ex3)
        exact p2 μ2 _ σ ex3 (rel2.set eb ec (fun z=>nomatch z) ⟨dx,_,upd_same,s1,s2⟩) (rst2.ext ex3)
      next=>exact p2.elim
    next=>exact p2.elim
  | f _=>exact p2.elim
  | tup _=>exact p2.elim
  | exc _=>exact p2.elim
end
end
end SD
end
section
set_option maxHeartbeats 4000000
namespace SD
open PySem PySem.Spec PyProof.Rows L2 L3 M3 MP
section
variable {ct:Tx} {Pm:Prog} {n:Nat} {X:Cx} {E:XK} {N:List Str} {sc:Scope}
noncomputable abbrev yes:L2.St→Prop:=fun _=>True
section
variable {ea eb ec:MSt→MH→R MV} {a b c:Expr} {pos p2:Pos}
theorem s_seq {st:Stmt} {rest:List Stmt} {ex ey:MSt→MH→RS} (h1:PS X st (lS ct yes E ex)) (h2:PSs X rest (lS ct yes E ey)):PSs X (st::rest) (lS ct yes E fun σ h=>(ex σ h).bind fun σ1 h1=>ey σ1 h1):=PSs.imp (pss_cons h1 h2) fun D σ H q=>by
  obtain ⟨μ,h,σs,rel,rst,ra,p⟩:=q
  refine ⟨μ,h,σs,rel,rst,ra,?_⟩
  dsimp only at p
  cases er:ex σs h with
  | next σ' h' =>
    rw [er] at p
    intro μ' H' σv e1 r1 q1
    exact ⟨μ',h',σ',r1,q1,trivial,PoS.start e1 p⟩
  | ret m h'=>rw [er] at p; exact p
  | brk σ' h'=>rw [er] at p; exact p
  | cnt σ' h'=>rw [er] at p; exact p
  | exc c h'=>rw [er] at p; exact p
  | stuck=>rw [er] at p; exact p
theorem s_nil:PSs X [] (lS ct yes E fun σ h=>.next σ h):=PSs.imp pss_nil fun D σ H q=>by
  obtain ⟨μ,h,σs,rel,rst,ra,p⟩:=q
  exact p μ H σ (Ext.refl _ _ _) rel rst
theorem s_pass:PS X (.Pass pos) (lS ct yes E fun σ h=>.next σ h):=PS.imp ps_pass fun D σ H q=>by
  obtain ⟨μ,h,σs,rel,rst,ra,p⟩:=q
  exact p μ H σ (Ext.refl _ _ _) rel rst
theorem s_for {tg:Tg} {t iter:Expr} {body:List Stmt} {it:String} {ev:MSt→MH→R (List MV)} {ex:MSt→MH→RS} (c:Cs X Pm ct n E N sc) (hi:PI X t iter (lI ct yes E ev it)) (ht:chkT yesN N sc tg t=true) (hb:PSs X body (lS ct yes E ex)) (hpl:plainE iter=true) :
    PS X (.For t iter body [] pos) (lS ct yes E fun σ h=>(ev σ h).st fun xs h1=>optS (itV it xs h1) fun p=>forL p.2 (loopB tg ex) p.1 σ h1):=by
  refine PS.imp (ps_for c.own c.cc.calm hi (sG (ct:=ct) c.cc.nm c.cc.sc c.cc.nd c.cc.calm (fun x _=>c.fn x) tg t ht) hb (folded_plain hpl)) fun D σ H q=>?_
  obtain ⟨μ,h,σs,rel,rst,ra,p⟩:=q
  refine ⟨μ,h,σs,rel,rst,ra,(PoS.st p).imp fun xs μ1 h1 H1 ⟨ex1,rel1,p1⟩=>?_⟩
  obtain ⟨⟨items,g⟩,e1,p2⟩:=PoS.opt p1
  refine ⟨items,g,e1,rel1,fun J wk=>?_⟩
  dsimp only at p2
  refine ⟨fun i m σ' H'=>∃ μ' h' σs',m=items.length - i∧i≤items.length∧Ext μ1 h1 H1 μ' h' H'∧Rel ct μ' h' H'∧RelSt ct μ' h' H' σ' σs'∧PoS ct E (forL g (loopB tg ex) (items.drop i) σs' h') μ' h' H' D,?_,?_⟩
  · exact ⟨items.length,μ1,h1,σs,by simp,Nat.zero_le _,Ext.refl _ _ _,rel1,rst.ext ex1,by simpa using p2⟩
  · rintro i m σ' H' ⟨μ',h',σs',rfl,hi',ex2,rel',rst',p3⟩
    by_cases lt:i < items.length
    · right
      have ed:items.drop i=items[i]::items.drop (i + 1):=List.drop_eq_getElem_cons lt
      rw [ed] at p3
      simp only [forL] at p3
      split at p3
      next gd =>
        obtain ⟨w1,_⟩:=wk i μ' h' H' ex2 rel' gd
        obtain ⟨go,yl⟩:=w1 lt
        refine ⟨go,fun σ2 H2=>∃ μ2 h2 σ2s,Ext μ1 h1 H1 μ2 h2 H2∧Rel ct μ2 h2 H2∧RelSt ct μ2 h2 H2 σ2 σ2s∧PoS ct E (forL g (loopB tg ex) (items.drop (i + 1)) σ2s h2) μ2 h2 H2 D,fun σ2 H2 ⟨μ2,h2,σ2s,e2,r2,q2,p4⟩=>⟨items.length - (i + 1),by lia,μ2,h2,σ2s,rfl,lt,e2,r2,q2,p4⟩,fun x H2 y=>?_⟩
        obtain ⟨mx,em,ex3,rel2,rx⟩:=yl x H2 y
        have emx:mx=items[i]:=by simpa [lt] using em.symm
        subst emx
        have p4:=PoS.start ex3 p3
        unfold loopB at p4
        cases eb:bindT tg items[i] σs' with
        | none=>rw [eb] at p4; exact p4.elim
        | some σ2s =>
          rw [eb] at p4
          simp only [optS_some] at p4
          refine ⟨μ',h',σs',items[i],σ2s,rel2,rst'.ext ex3,rx,eb,fun σ2 rst2=>?_⟩
          refine ⟨μ',h',σ2s,rel2,rst2,trivial,?_⟩
          cases er:ex σ2s h' with
          | next σ3 h3 =>
            rw [er] at p4
            intro μ3 H3 σv e3 r3 q3
            exact ⟨μ3,h3,σ3,(ex2.trans ex3).trans e3,r3,q3,PoS.start e3 p4⟩
          | cnt σ3 h3 =>
            rw [er] at p4
            intro μ3 H3 σv e3 r3 q3
            exact ⟨μ3,h3,σ3,(ex2.trans ex3).trans e3,r3,q3,PoS.start e3 p4⟩
          | brk σ3 h3=>rw [er] at p4; exact p4
          | ret m h3=>rw [er] at p4; exact p4
          | exc c h3=>rw [er] at p4; exact p4
          | stuck=>rw [er] at p4; exact p4
      next=>exact p3.elim
    · left
      have hi2:i=items.length:=by lia
      subst hi2
      rw [List.drop_length] at p3
      simp only [forL] at p3
      split at p3
      next gd =>
        obtain ⟨_,w2⟩:=wk items.length μ' h' H' ex2 rel' gd
        exact ⟨w2 rfl,p3 μ' H' σ' (Ext.refl _ _ _) rel' rst'⟩
      next=>exact p3.elim
theorem s_while {body:List Stmt} {ex:MSt→MH→RS} (c':Cs X Pm ct n E N sc) (tc:PT X c (lT ct yes E (tst ec))) (hb:PSs X body (lS ct yes E ex)) (k:Nat) :
    PS X (.While c body [] pos) (lS ct yes E fun σ h=>whileL ec ex k σ h):=by
  refine PS.imp (ps_while c'.own tc hb) fun D σ H q=>?_
  obtain ⟨μ,h,σs,rel,rst,ra,p⟩:=q
  refine ⟨fun m σ' H'=>∃ μ' h' σs',Rel ct μ' h' H'∧RelSt ct μ' h' H' σ' σs'∧PoS ct E (whileL ec ex m σs' h') μ' h' H' D,⟨k,μ,h,σs,rel,rst,p⟩,?_⟩
  rintro m σ' H' ⟨μ',h',σs',rel',rst',p1⟩
  cases m with
  | zero=>exact p1.elim
  | succ m =>
    simp only [whileL] at p1
    have p2:PoS ct E ((tst ec σs' h').st fun b h1=>if b=true then (ex σs' h1).turn fun σ2 h2=>whileL ec ex m σ2 h2 else .next σs' h1) μ' h' H' D:=by
      dsimp only [tst]
      cases er:ec σs' h' with
      | stuck=>rw [er] at p1; exact p1
      | exc c h'=>rw [er] at p1; exact p1
      | ok x h' =>
        rw [er] at p1
        simp only [R.bind_ok,R.st_ok] at p1 ⊢
        cases eb:blOf x with
        | none=>rw [eb] at p1; exact p1.elim
        | some k=>rw [eb] at p1; exact p1
    refine ⟨μ',h',σs',rel',rst',trivial,(PoS.st p2).imp fun b μ1 h1 H1 ⟨ex1,rel1,p3⟩=>?_⟩
    cases b with
    | false=>exact p3 μ1 H1 σ' (Ext.refl _ _ _) rel1 (rst'.ext ex1)
    | true =>
      simp only [if_true] at p3 ⊢
      refine ⟨fun σ2 H2=>∃ μ2 h2 σ2s,Rel ct μ2 h2 H2∧RelSt ct μ2 h2 H2 σ2 σ2s∧PoS ct E (whileL ec ex m σ2s h2) μ2 h2 H2 D,fun σ2 H2 q2=>⟨m,by lia,q2⟩,μ1,h1,σs',rel1,rst'.ext ex1,trivial,?_⟩
      cases er:ex σs' h1 with
      | next σ3 h3 =>
        rw [er] at p3
        intro μ3 H3 σv e3 r3 q3
        exact ⟨μ3,h3,σ3,r3,q3,PoS.start e3 p3⟩
      | cnt σ3 h3 =>
        rw [er] at p3
        intro μ3 H3 σv e3 r3 q3
        exact ⟨μ3,h3,σ3,r3,q3,PoS.start e3 p3⟩
      | brk σ3 h3=>rw [er] at p3; exact p3
      | ret m h3=>rw [er] at p3; exact p3
      | exc c h3=>rw [er] at p3; exact p3
      | stuck=>rw [er] at p3; exact p3
theorem s_frz {i:Nat} {rest:List Stmt} {ey:MSt→MH→RS} (h2:PSs X rest (lS ct yes E ey)):PSs X rest (lS ct yes E fun σ h=>(optS ((σ[i]?).join) fun v=>(frzV v h).st fun x h1=>.next (σ.set i (some x)) h1).bind fun σ1 h1=>ey σ1 h1):=PSs.imp h2 fun D σ H q=>by
  obtain ⟨μ,h,σs,rel,rst,ra,p⟩:=q
  dsimp only at p
  cases e:(σs[i]?).join with
  | none=>rw [e] at p; exact p.elim
  | some m =>
    rw [e] at p
    simp only [optS_some] at p
    have e':σs[i]?=some (some m):=by
      cases q:σs[i]? with
      | none=>rw [q] at e; cases e
      | some z=>rw [q] at e; exact congrArg some e
    obtain ⟨v,ev,rv⟩:=rst.at_ i m e'
    cases ef:frzV m h with
    | stuck=>rw [ef] at p; exact p.elim
    | exc c h' =>
      unfold frzV at ef
      cases ed:deep h m with
      | none=>rw [ed] at ef; cases ef
      | some x=>rw [ed] at ef; cases ef
    | ok x h' =>
      rw [ef] at p
      simp only [R.st_ok,RS.bind_next] at p
      have po:Po ct E (frzV m h) μ h H fun y μ1 h1 H1=>y=x∧h1=h':=by rw [ef]; exact fun μ' H' _ _=>⟨rfl,rfl⟩
      obtain ⟨y,h'',ex1,rel1,rv1,rfl,rfl⟩:=frz_ok rel rv po
      refine ⟨μ,h'',σs.set i (some (.f y)),rel1,?_,trivial,PoS.start ex1 p⟩
      have r2:=(rst.ext ex1).set i rv1
      have:σ.set i (some v)=σ:=by
        apply List.ext_getElem?
        intro j
        by_cases hj:i=j
        · subst hj
          rw [List.getElem?_set_self (List.getElem?_eq_some_iff.mp ev).1,ev]
        · rw [List.getElem?_set_ne hj]
      rw [this] at r2
      exact r2
end
end
end SD
end
section
set_option maxHeartbeats 4000000
namespace SD
open PySem PySem.Spec PyProof.Rows L2 L3 M3 MP
noncomputable def swB (sc cs:Scope) (t:Str) (tp vp:Pos):Bool:=sc.names.lookup t == some .local&&tp.line == vp.line&&!(cs.names.any fun (n,k)=>n == t&&(k == .local || k == .cell))
theorem sw_comp {env:Env} (kd:env.scope.kind=.function) (e:Expr) (gs:List Comprehension) (cs:Scope) (vp:Pos) (t:Str) (tp:Pos) (l:Nat):swapsWith (.ListComp e gs cs vp) (some (.Name t tp)) l env=pure (swB env.scope cs t tp vp):=by
  have hb:(env.blockKind == ScopeKind.function)=true:=by
    unfold Env.blockKind
    rw [kd]; rfl
  show (pure (env.blockKind == .function&&env.kindOf t == some .local&&tp.line == vp.line&&!(cs.names.any fun (n,k)=>n == t&&(k == .local || k == .cell))):Sem Bool)=_
  rw [hb,Bool.true_and]
  rfl
noncomputable def twoN:List Expr→Option (Str×Pos×Str×Pos)
  | [.Name x px,.Name y py]=>some (x,px,y,py)
  | _=>none
noncomputable def asTup:Expr→Option (List Expr)
  | .Tuple es _ _=>some es
  | _=>none
noncomputable def parForm:Stmt→Option ((Str×Pos×Str×Pos)×Expr×Expr)
  | .Assign ts v _=>(oneL ts).bind fun t=>(asTup t).bind fun es=>(asTup v).bind fun vs=>(twoN es).bind fun p=>(twoL vs).map fun q=>(p,q)
  | _=>none
noncomputable def asName:Expr→Option Str
  | .Name x _=>some x
  | _=>none
noncomputable def asCall1:Expr→Option (Str×Str)
  | .Call f [a] [] _=>(asName f).bind fun z=>(asName a).map fun n=>(z,n)
  | _=>none
noncomputable def asAsg:Stmt→Option (Str×Str×Str)
  | .Assign [t] v _=>(asName t).bind fun y=>(asCall1 v).map fun q=>(y,q.1,q.2)
  | _=>none
noncomputable def hdForm (bd:List Stmt):ExceptHandler→Option (List Stmt×Str×Str×Str×Str×Str)
  | .ExceptHandler (some t) (some nm) [s] _=>(asName t).bind fun x=>(asAsg s).map fun q=>(bd,x,nm,q)
  | _=>none
noncomputable def isComp:ME→Bool
  | .comp ..=>true
  | _=>false
noncomputable def tupTup:Expr→Expr→Bool
  | .Tuple ..,.Tuple ..=>true
  | _,_=>false
noncomputable def setTB (tg:Tg) (t:Expr) (N:List Str) (sc:Scope):Bool:=match tg with
  | .nm i=>match asName t with
    | some x=>N[i]? == some x&&sc.names.lookup x == some .local
    | none=>false
  | _=>false
section
variable (Pm:Prog)
mutual
noncomputable def chkTB (ms:MS) (N:List Str) (sc:Scope) (st:Stmt):Bool:=match ms,st with
  | .expr e,.Expr v _=>!(isLC v)&&chkE Pm e N sc v
  | .ite c a b,.If t x y _=>okT c&&chkE Pm c N sc t&&chkTBs a N sc x&&chkTBs b N sc y
  | .set tg e,.Assign [t] v _=>setTB tg t N sc&&!(isLC v)&&chkE Pm e N sc v
  | _,_=>false
noncomputable def chkTBs (mss:List MS) (N:List Str) (sc:Scope) (sts:List Stmt):Bool:=match mss with
  | []=>sts.isEmpty
  | m::ms=>match sts with
    | [st]=>ms.isEmpty&&chkTB m N sc st
    | _=>false
end
mutual
noncomputable def chkSt (ms:MS) (N:List Str) (sc:Scope) (st:Stmt):Bool:=match ms,st with
  | .set tg e,.Assign [t] v _=>chkT yesN N sc tg t&&chkE Pm e N sc v&&!(tupTup t v)&&(if isLC v then isComp e else true)
  | .setSub o i e,.Assign [.Subscript x y _] v _=>chkE Pm e N sc v&&chkE Pm o N sc x&&chkE Pm i N sc y
  | .setFld o n e,.Assign [.Attribute x m _] v _=>m == Str.ofString n&&chkE Pm e N sc v&&chkE Pm o N sc x
  | .expr e,.Expr v _=>!(isLC v)&&chkE Pm e N sc v
  | .ret e,.Return (some v) _=>chkE Pm e N sc v
  | .ite c a b,.If t x y _=>okT c&&chkE Pm c N sc t&&chkSs a N sc x&&chkSs b N sc y
  | .for_ tg it src body,.For t iter bd [] _=>plainE iter&&chkT yesN N sc tg t&&chkSs body N sc bd &&
      (if it == "seq" then chkS Pm src N sc iter else if it == "keys" then false else if it == "items" then false else if it == "enum1" then false else chkIt t it iter&&gl sc (Str.ofString it)&&chkEs Pm src N sc (srcArgs iter))
  | .while_ c body,.While t bd [] _=>okT c&&chkE Pm c N sc t&&chkSs body N sc bd
  | .boom,_=>true
  | .pass,.Pass _=>true
  | _,_=>false
noncomputable def chkSs (mss:List MS) (N:List Str) (sc:Scope) (sts:List Stmt):Bool:=match mss with
  | []=>sts.isEmpty
  | .frzS _::ms=>chkSs ms N sc sts
  | m::ms=>match sts with
    | st::sts=>chkSt m N sc st&&chkSs ms N sc sts
    | []=>false
end
end
section
variable {ct:Tx} {Pm:Prog} {n:Nat}
section
variable {X:Cx} {E:XK} {N:List Str} {sc:Scope}
theorem ps_congr {st:Stmt} {ex ex':MSt→MH→RS} {Ra:L2.St→Prop} (p:PS X st (lS ct Ra E ex)) (h:∀ σ hh,ex' σ hh=ex σ hh):PS X st (lS ct Ra E ex'):=by
  have:ex'=ex:=funext fun σ=>funext fun hh=>h σ hh
  rw [this]; exact p
theorem pss_congr {st:List Stmt} {ex ex':MSt→MH→RS} {Ra:L2.St→Prop} (p:PSs X st (lS ct Ra E ex)) (h:∀ σ hh,ex' σ hh=ex σ hh):PSs X st (lS ct Ra E ex'):=by
  have:ex'=ex:=funext fun σ=>funext fun hh=>h σ hh
  rw [this]; exact p
theorem s_setC (fz:Bool) {i:Nat} {x:Str} {elt iter tg:Expr} {ifs:List Expr} {cs:Scope} {N':List Str} {ncv:Nat} {js:List Nat} {it:String} {t:Tg} {es:MSt→MH→R (List MV)} {tc:MSt→MH→R Bool} {te:MSt→MH→R MV} {pos tp vp:Pos} (c:Cs X Pm ct n E N sc) (hi0:X.N[i]?=some x) (hx:Loc X.env.scope x)
    (hok:compOkB X.env.scope X.N cs N' ncv js=true) (hi:PI X tg iter (lI ct yes E es it)) (hg:∀ C s3 H ex,PG (cxC X cs N' C s3 H ex) tg (lG ct t)) (hif:∀ C s3 H ex,PIf (cxC X cs N' C s3 H ex) ifs (lT ct (fun _=>True) E0 tc)) (helt:∀ C s3 H ex,PE (cxC X cs N' C s3 H ex) elt (lE ct (fun _=>True) E0 te)) (hpl:plainE iter=true)
    (hsw:swapsWith (.ListComp elt [⟨tg,iter,ifs,0⟩] cs vp) (some (.Name x tp)) pos.line X.env=pure true) :
    PS X (.Assign [.Name x tp] (.ListComp elt [⟨tg,iter,ifs,0⟩] cs vp) pos) (lS ct yes E fun σ h=>((es σ h).bind fun xs h1=>opt (itV it xs h1) fun p=>(compL p.2 (compB t tc te) p.1 [] (MP.stM ncv js σ) h1).bind fun acc h3=>newL fz acc h3).st fun v h1=>optS (bindT (.nm i) v σ) fun σ1=>.next σ1 h1):=by
  refine PS.imp (ps_setC c.cc.nd hi0 hx N' ncv js hok c.cc.calm hi hg hif helt hsw (folded_plain hpl) (.inl (c.fn x))) fun D σ H q=>?_
  obtain ⟨μ,h,σs,rel,rst,ra,p⟩:=q
  refine comp_read fz σ H _ (lE.st (ev:=fun σ h=>(es σ h).bind fun xs h1=>opt (itV it xs h1) fun p=>(compL p.2 (compB t tc te) p.1 [] (MP.stM ncv js σ) h1).bind fun acc h3=>newL fz acc h3) rel rst ra p fun m v μ1 h1 H1 ex rel1 rst1 rv p1=>?_)
  obtain ⟨σ1,e,p2⟩:=PoS.opt p1
  simp only [bindT,Option.some.injEq] at e
  subst e
  exact p2 μ1 H1 _ (Ext.refl _ _ _) rel1 (rst1.set i rv)
theorem stores_none {t v:Expr} {env:Env} {lo:Str→Bool} {tg:Tg} (ht:chkT lo N sc tg t=true) (hv:tupTup t v=false):swappedStores [t] v env=pure none:=by
  cases tg with
  | nm i =>
    cases t with
    | Name x p=>cases v <;> rfl
    | _=>simp [chkT] at ht
  | tp ts =>
    cases t with
    | Tuple es k p=>cases v <;> first | rfl | (exact Bool.noConfusion hv)
    | _=>simp [chkT] at ht
theorem s_setA {tg:Tg} {me:ME} {t v:Expr} {pos:Pos} (c:Cs X Pm ct n E N sc) (h1:chkT yesN N sc tg t=true) (h2:chkE Pm me N sc v=true) (h3:tupTup t v=false) (h4:(if isLC v=true then isComp me else true)=true) :
    PS X (.Assign [t] v pos) (lS ct yes E fun σ h=>(evalE Pm (run Pm n) me σ h).st fun v h1=>optS (bindT tg v σ) fun σ1=>.next σ1 h1):=by
  by_cases hs:swapsWith v (some t) pos.line X.env=pure false
  · exact s_set c h1 (sB me c.cc v h2).1 hs (stores_none h1 h3)
  · cases hl:isLC v with
    | false=>exact absurd (sw_plain hl) hs
    | true =>
      rw [hl] at h4
      cases me with
      | comp fz elt tg' it src cond ncv js =>
        have h2':=h2
        have h:=chk_raw h2
        cases v with
        | ListComp x gs cs p =>
          rcases gs with _ | ⟨⟨t',iter,ifs,a⟩,_ | ⟨g2,gs⟩⟩
          · exact ff h
          · have h:((a == 0)&&plainE iter&&compOkB sc N cs (tgN tg' t'++js.filterMap fun j=>N[j]?) ncv js&&decide (tgN tg' t'++js.filterMap fun j=>N[j]?).Nodup&&chkT (ownC cs) (tgN tg' t'++js.filterMap fun j=>N[j]?) (relabS cs sc) tg' t'&&chkE Pm elt (tgN tg' t'++js.filterMap fun j=>N[j]?) (relabS cs sc) x&&chkC Pm cond (tgN tg' t'++js.filterMap fun j=>N[j]?) (relabS cs sc) ifs&&(if it == "seq" then chkS Pm src N sc iter else if it == "signs" then false else if it == "enum1" then false else chkIt t' it iter&&gl sc (Str.ofString it)&&chkEs Pm src N sc (srcArgs iter)))=true:=h
            simp only [Bool.and_eq_true,beq_iff_eq,decide_eq_true_eq] at h
            obtain ⟨⟨⟨⟨⟨⟨⟨ha,k1⟩,k2⟩,k3⟩,k4⟩,k5⟩,k6⟩,k7⟩:=h
            subst ha
            have hi:PI X t' iter (lI ct yes E (evalEs Pm (run Pm n) src) it):=by
              split at k7
              next hs=>subst hs; exact sBi src c.cc t' iter k7
              next hs =>
                split at k7
                next hs4=>exact ff k7
                next =>
                split at k7
                next hs2 =>
                  exact ff k7
                next =>
                  simp only [Bool.and_eq_true] at k7
                  exact sI_of c.cc k7.1.1 k7.1.2 (sBs src c.cc (srcArgs iter) k7.2)
            cases t with
            | Name y tp =>
              cases tg with
              | nm i =>
                simp only [chkT,stoB,Bool.and_eq_true,beq_iff_eq,Bool.or_eq_true] at h1
                rw [sw_comp c.kd] at hs
                have hsw:swB X.env.scope cs y tp p=true:=by
                  cases e:swB X.env.scope cs y tp p with
                  | true=>rfl
                  | false=>rw [e] at hs; exact absurd rfl hs
                have hx:Loc X.env.scope y:=by
                  rw [c.cc.sc]
                  rcases h1.2 with z | ⟨_,z⟩
                  · exact .inl z
                  · exact .inr z
                refine ps_congr (s_setC fz (tp:=tp) c (by rw [c.cc.nm]; exact h1.1) hx (by rw [c.cc.sc,c.cc.nm]; exact k2) hi (fun C s3 H ex=>sG rfl (c.cc.comp k3 C s3 H ex).sc k3 c.cc.calm (fun _ z=>z) tg' t' k4) (fun C s3 H ex=>sBc cond (c.cc.comp k3 C s3 H ex) ifs k6) (fun C s3 H ex=>(sB elt (c.cc.comp k3 C s3 H ex) x k5).1) k1 (by rw [sw_comp c.kd,hsw])) fun σ hh=>?_
                simp only [evalE]
              | tp ts=>simp [chkT] at h1
            | _=>exact absurd (sw_lc (by intro x p z; cases z)) hs
          · exact ff h
        | _=>first | exact Bool.noConfusion hl | exact ff h
      | _=>exact Bool.noConfusion h4
end
mutual
theorem sS:∀ (ms:MS) {X:Cx} {E:XK} {N:List Str} {sc:Scope} (c:Cs X Pm ct n E N sc) (st:Stmt),chkSt Pm ms N sc st=true→PS X st (lS ct yes E (execS Pm (run Pm n) ms))
  | .set tg e,X,E,N,sc,c,st,h=>by
    cases st with
    | Assign ts v p =>
      rcases ts with _ | ⟨t,_ | ⟨t2,ts⟩⟩
      · exact ff h
      · have h:(chkT yesN N sc tg t&&chkE Pm e N sc v&&!(tupTup t v)&&(if isLC v then isComp e else true))=true:=h
        simp only [Bool.and_eq_true,Bool.not_eq_true'] at h
        obtain ⟨⟨⟨h1,h2⟩,h3⟩,h4⟩:=h
        exact ps_congr (s_setA c h1 h2 h3 h4) fun σ hh=>by simp only [execS]
      · exact ff h
    | _=>exact ff h
  | .setSub o i e,X,E,N,sc,c,st,h=>by
    cases st with
    | Assign ts v p =>
      rcases ts with _ | ⟨t,_ | ⟨t2,ts⟩⟩
      · exact ff h
      · cases t with
        | Subscript x y p2 =>
          have h:(chkE Pm e N sc v&&chkE Pm o N sc x&&chkE Pm i N sc y)=true:=h
          simp only [Bool.and_eq_true] at h
          obtain ⟨⟨h1,h2⟩,h3⟩:=h
          exact ps_congr (s_setSub (sB e c.cc v h1).1 (sB o c.cc x h2).1 (sB i c.cc y h3).1 (chk_plain h3)) fun σ hh=>by simp only [execS] <;> rfl
        | _=>exact ff h
      · cases t <;> exact ff h
    | _=>exact ff h
  | .boom,X,E,N,sc,c,st,h=>fun pins s σ H D I q=>by
    obtain ⟨μ,hh,σs,rel,rst,ra,p⟩:=q
    simp only [execS] at p
    exact p.elim
  | .par i j a b,X,E,N,sc,c,st,h=>ff h
  | .setFld o f e,X,E,N,sc,c,st,h=>by
    cases st with
    | Assign ts v p =>
      rcases ts with _ | ⟨t,_ | ⟨t2,ts⟩⟩
      · exact ff h
      · cases t with
        | Attribute x m p2 =>
          have h:(m == Str.ofString f&&chkE Pm e N sc v&&chkE Pm o N sc x)=true:=h
          simp only [Bool.and_eq_true,beq_iff_eq] at h
          obtain ⟨⟨rfl,h2⟩,h3⟩:=h
          exact ps_congr (s_setFld c.cc.txt (sB e c.cc v h2).1 (sB o c.cc x h3).1) fun σ hh=>by simp only [execS] <;> rfl
        | _=>exact ff h
      · cases t <;> exact ff h
    | _=>exact ff h
  | .expr e,X,E,N,sc,c,st,h=>by
    cases st with
    | Expr v p =>
      have h:(!(isLC v)&&chkE Pm e N sc v)=true:=h
      simp only [Bool.and_eq_true,Bool.not_eq_true'] at h
      exact ps_congr (s_expr (sB e c.cc v h.2).1 h.1) fun σ hh=>by simp only [execS]
    | _=>exact ff h
  | .ret e,X,E,N,sc,c,st,h=>by
    cases st with
    | Return v p =>
      cases v with
      | some v=>exact ps_congr (s_ret (sB e c.cc v (show chkE Pm e N sc v=true from h)).1) fun σ hh=>by simp only [execS]
      | none=>exact ff h
    | _=>exact ff h
  | .ite d a b,X,E,N,sc,c,st,h=>by
    cases st with
    | If t x y p =>
      have h:(okT d&&chkE Pm d N sc t&&chkSs Pm a N sc x&&chkSs Pm b N sc y)=true:=h
      simp only [Bool.and_eq_true] at h
      obtain ⟨⟨⟨h0,h1⟩,h2⟩,h3⟩:=h
      exact ps_congr (s_if ((sB d c.cc t h1).2 h0) (sSs a c x h2) (sSs b c y h3)) fun σ hh=>by simp only [execS]
    | _=>exact ff h
  | .for_ tg it src body,X,E,N,sc,c,st,h=>by
    cases st with
    | For t iter bd oe p =>
      cases oe with
      | cons _ _=>exact ff h
      | nil =>
        have h:(plainE iter&&chkT yesN N sc tg t&&chkSs Pm body N sc bd&&(if it == "seq" then chkS Pm src N sc iter else if it == "keys" then false else if it == "items" then false else if it == "enum1" then false else chkIt t it iter&&gl sc (Str.ofString it)&&chkEs Pm src N sc (srcArgs iter)))=true:=h
        simp only [Bool.and_eq_true] at h
        obtain ⟨⟨⟨h1,h2⟩,h3⟩,h4⟩:=h
        have hi:PI X t iter (lI ct yes E (evalEs Pm (run Pm n) src) it):=by
          split at h4
          next hs =>
            have hs':it="seq":=by simpa using hs
            subst hs'; exact sBi src c.cc t iter h4
          next hs =>
            split at h4
            next hs2 =>
              have hs':it="keys":=by simpa using hs2
              subst hs'; exact ff h4
            next =>
              split at h4
              next hs4 =>
                exact ff h4
              next =>
              split at h4
              next hs3 =>
                exact ff h4
              next =>
                simp only [Bool.and_eq_true] at h4
                exact sI_of c.cc h4.1.1 h4.1.2 (sBs src c.cc (srcArgs iter) h4.2)
        exact ps_congr (s_for c hi h2 (sSs body c bd h3) h1) fun σ hh=>by simp only [execS]
    | _=>exact ff h
  | .while_ d body,X,E,N,sc,c,st,h=>by
    cases st with
    | While t bd oe p =>
      cases oe with
      | cons _ _=>exact ff h
      | nil =>
        have h:(okT d&&chkE Pm d N sc t&&chkSs Pm body N sc bd)=true:=h
        simp only [Bool.and_eq_true] at h
        obtain ⟨⟨h0,h1⟩,h2⟩:=h
        exact ps_congr (s_while c ((sB d c.cc t h1).2 h0) (sSs body c bd h2) Pm.turns) fun σ hh=>by simp only [execS]
    | _=>exact ff h
  | .pass,X,E,N,sc,c,st,h=>by
    cases st with
    | Pass p=>exact ps_congr s_pass fun σ hh=>by simp only [execS]
    | _=>exact ff h
  | .frzS i,X,E,N,sc,c,st,h=>by
    exact ff h
theorem sSs:∀ (mss:List MS) {X:Cx} {E:XK} {N:List Str} {sc:Scope} (c:Cs X Pm ct n E N sc) (sts:List Stmt),chkSs Pm mss N sc sts=true→PSs X sts (lS ct yes E (execSs Pm (run Pm n) mss))
  | [],X,E,N,sc,c,sts,h=>by
    cases sts with
    | nil=>exact pss_congr s_nil fun σ hh=>by simp only [execSs]
    | cons _ _=>exact ff h
  | m::ms,X,E,N,sc,c,sts,h=>by
    cases m with
    | frzS i=>exact pss_congr (s_frz (i:=i) (sSs ms c sts h)) fun σ hh=>by simp only [execSs,execS]
    | boom =>
      cases sts with
      | nil=>exact ff h
      | cons st sts =>
        have h2:chkSs Pm ms N sc sts=true:=h
        exact pss_congr (s_seq (sS .boom c st rfl) (sSs ms c sts h2)) fun σ hh=>by simp only [execSs]
    | _ =>
      cases sts with
      | nil=>exact ff h
      | cons st sts =>
        first
        | (have h:(chkSt Pm _ N sc st&&chkSs Pm ms N sc sts)=true:=h; simp only [Bool.and_eq_true] at h; exact pss_congr (s_seq (sS _ c st h.1) (sSs ms c sts h.2)) fun σ hh=>by simp only [execSs])
        | exact ff h
end
end
end SD
end
section
set_option maxHeartbeats 4000000
namespace SD
open PySem PySem.Spec PyProof.Rows L2 L3 M3 MP
noncomputable def defB (Pm:Prog) (d:MDef) (N ps:List Str) (st:Stmt):Bool :=
  (defScope st).kind == .function&&!(defScope st).isCoroutine&&!(defScope st).isGenerator&&decide N.Nodup&&decide (N.take ps.length=ps)&&ps.all (fun x=>(defScope st).names.lookup x == some .local || (defScope st).names.lookup x == some .cell) &&
    (defScope st).names.all (fun y=>y.2 != .free)&&d.np == ps.length&&d.ns == N.length&&chkSs Pm d.body N (defScope st) (defBody st)
section
variable {P:Program} {w:World} {K:PySem.W.Frag} {mg:Str→Option Value} {base:Heap} {Pm:Prog} {ct:Tx} {n:Nat} {d:MDef} {N ps:List Str} {st:Stmt} {f:String}
theorem defB_sc (h:defB Pm d N ps st=true):FnScope N ps (defScope st)∧d.np=ps.length∧d.ns=N.length∧chkSs Pm d.body N (defScope st) (defBody st)=true:=by
  unfold defB at h
  simp only [Bool.and_eq_true,beq_iff_eq,Bool.not_eq_true',decide_eq_true_eq,List.all_eq_true,Bool.or_eq_true,bne_iff_ne,ne_eq] at h
  obtain ⟨⟨⟨⟨⟨⟨⟨⟨⟨h1,h2⟩,h3⟩,h4⟩,h5⟩,h6⟩,h7⟩,h8⟩,h9⟩,h10⟩:=h
  exact ⟨⟨h1,h2,h3,h4,h5,h6,h7⟩,h8,h9,h10⟩
theorem run_len {ms:List MV} {h:MH} {r:R MV} (hd:Pm.defs f=some d) (e:MP.run Pm (n + 1) f ms h=r) (hr:r≠.stuck):ms.length=d.np∧r=leaveS h (execSs Pm (MP.run Pm n) d.body (ms.map some++List.replicate (d.ns - d.np) none) h):=by
  simp only [MP.run,hd,opt_some] at e
  split at e
  next c=>exact ⟨c,e.symm⟩
  next=>exact absurd e.symm hr
theorem sp_len (hd:Pm.defs f=some d) (hn:d.np=ps.length):∀ vs H Q E,spR ct (MP.run Pm (n + 1) f) vs H Q E→vs.length=ps.length:=by
  intro vs H Q E ⟨μ,h,ms,rel,rvs,p⟩
  cases er:MP.run Pm (n + 1) f ms h with
  | stuck=>rw [er] at p; exact p.elim
  | ok x h'=>rw [rvs.length,(run_len hd er (fun z=>nomatch z)).1,hn]
  | exc c h'=>rw [rvs.length,(run_len hd er (fun z=>nomatch z)).1,hn]
theorem body_ok (T:Txt P w K mg base Pm ct n) (hK:K=ct.K) (hd:Pm.defs f=some d) (hb:defB Pm d N ps st=true) (qual:Str) (fa:Addr) (cdv:Value) (A:Around) (outer:List Env) (s:Shared) (H:Hp) (vs:List V) (Q:VK) (E:XK)
    (hr:Room (2 * n + 1) (A.deeper (envOfC qual (defScope st) s.heap.objs.size fa cdv))) (hsp:spR ct (MP.run Pm (n + 1) f) vs H Q E) :
    ∃ t,PSs (cxOf (CX1 P w) P w K mg base N qual (defScope st) fa cdv A outer s H E) (defBody st) t∧t {nx:=fun _ H'=>Q .non H',rt:=Q} (L2.start N vs) H:=by
  obtain ⟨S,hn,hs,hc⟩:=defB_sc hb
  have cs:Cs (cxOf (CX1 P w) P w K mg base N qual (defScope st) fa cdv A outer s H E) Pm ct n E N (defScope st) :=
    ⟨⟨T,rfl,hr,fun σ _ pins H s e s' I h=>passes_of rfl takes_def pins σ H s e s' I h,rfl,rfl,S.nd,hK⟩,rfl,own_def,takes_def,fun _=>rfl,S.kind,rfl,rfl⟩
  refine ⟨_,sSs d.body cs (defBody st) hc,?_⟩
  obtain ⟨μ,h,ms,rel,rvs,p⟩:=hsp
  have hlen:=sp_len hd hn vs H Q E ⟨μ,h,ms,rel,rvs,p⟩
  have hml:ms.length=d.np:=by rw [← rvs.length,hlen,hn]
  refine ⟨μ,h,ms.map some++List.replicate (d.ns - d.np) none,rel,?_,trivial,?_⟩
  · refine ⟨by unfold L2.start; simp [rvs.length,hml,hs],fun i m e=>?_⟩
    by_cases hi:i < ms.length
    · rw [List.getElem?_append_left (by simpa using hi),List.getElem?_map] at e
      cases em:ms[i]? with
      | none=>rw [em] at e; cases e
      | some m' =>
        rw [em] at e
        simp only [Option.map_some,Option.some.injEq] at e
        subst e
        obtain ⟨v,ev,rv⟩:=rvs.get em
        refine ⟨v,?_,rv⟩
        unfold L2.start
        rw [List.getElem?_append_left (by rw [List.length_map,rvs.length]; exact hi),List.getElem?_map,ev]; rfl
    · rw [List.getElem?_append_right (by simpa using hi),List.getElem?_replicate] at e
      split at e <;> cases e
  · have er:MP.run Pm (n + 1) f ms h=leaveS h (execSs Pm (MP.run Pm n) d.body (ms.map some++List.replicate (d.ns - d.np) none) h):=by
      simp only [MP.run,hd,opt_some,if_pos hml]
    rw [er] at p
    cases ex:execSs Pm (MP.run Pm n) d.body (ms.map some++List.replicate (d.ns - d.np) none) h with
    | next σ' h' =>
      rw [ex] at p
      intro μ' H' σ e1 r1 q1
      obtain ⟨ν,rfl⟩:=e1.pre
      exact leave_ok rel e1 r1 rv_mkN p
    | ret m h' =>
      rw [ex] at p
      intro μ' H' v e1 r1 rv
      obtain ⟨ν,rfl⟩:=e1.pre
      exact leave_ok rel e1 r1 rv p
    | exc c h' =>
      rw [ex] at p
      intro μ' H' e1 r1
      obtain ⟨ν,rfl⟩:=e1.pre
      exact leaveX_ok rel e1 r1 p
    | brk σ' h'=>rw [ex] at p; exact p.elim
    | cnt σ' h'=>rw [ex] at p; exact p.elim
    | stuck=>rw [ex] at p; exact p.elim
theorem def_sound (T:Txt P w K mg base Pm ct n) (hK:K=ct.K) (S:Src K mg (Str.ofString f) st ps) (hd:Pm.defs f=some d) (hb:defB Pm d N ps st=true):DefOk P w K mg base (Str.ofString f) (2 * (n + 1)) ps (spR ct (MP.run Pm (n + 1) f)) :=
  def_ok (k:=2 * n + 1) S (defB_sc hb).1 (sp_len hd (defB_sc hb).2.1) fun fa cdv A outer s H vs Q E hr hsp=>body_ok T hK hd hb _ fa cdv A outer s H vs Q E hr hsp
theorem fn_sound {x qual:Str} {fa:Addr} {fd:FuncData} (T:Txt P w K mg base Pm ct n) (hK:K=ct.K) (F:Fun K x qual st fa fd) (hd:Pm.defs f=some d) (hb:defB Pm d N ps st=true):FnOk P w K mg base (CX1 P w) (2 * (n + 1)) fa fd ps (spR ct (MP.run Pm (n + 1) f)):=by
  obtain ⟨oc,od,kV,doc,pm,an,cdv,ctv,osl,rfl,lk,hcd⟩:=F.ex
  exact fn_of (k:=2 * n + 1) lk hcd (defB_sc hb).1 (sp_len hd (defB_sc hb).2.1) fun A outer s H vs Q E hr hsp=>body_ok T hK hd hb _ fa cdv A outer s H vs Q E hr hsp
theorem fnD_sound {x qual:Str} {fa:Addr} {fd:FuncData} (T:Txt P w K mg base Pm ct n) (hK:K=ct.K) (F:FunD K x qual st fa fd) (hd:Pm.defs f=some d) (hb:defB Pm d N ps st=true):FnOk P w K mg base (CX1 P w) (2 * (n + 1)) fa fd ps (spR ct (MP.run Pm (n + 1) f)):=by
  obtain ⟨oc,od,dV,kV,doc,pm,an,cdv,ctv,osl,rfl,lk,hcd⟩:=F.ex
  exact fn_of (k:=2 * n + 1) lk hcd (defB_sc hb).1 (sp_len hd (defB_sc hb).2.1) fun A outer s H vs Q E hr hsp=>body_ok T hK hd hb _ fa cdv A outer s H vs Q E hr hsp
end
theorem ln0 {α:Type} {us:List α} (h:us.length=0):us=[]:=List.eq_nil_of_length_eq_zero h
theorem lnS {α:Type} {n:Nat} {us:List α} (h:us.length=n + 1):∃ a vs,us=a::vs∧vs.length=n:=by
  cases us with
  | nil=>cases h
  | cons a vs=>exact ⟨a,vs,rfl,Nat.succ.inj h⟩
theorem ln1 {α:Type} {us:List α} (h:us.length=1):∃ a,us=[a]:=by obtain ⟨a,vs,rfl,h2⟩:=lnS h; rw [ln0 h2]; exact ⟨a,rfl⟩
theorem ln2 {α:Type} {us:List α} (h:us.length=2):∃ a b,us=[a,b]:=by obtain ⟨a,vs,rfl,h2⟩:=lnS h; obtain ⟨b,rfl⟩:=ln1 h2; exact ⟨a,b,rfl⟩
theorem ln3 {α:Type} {us:List α} (h:us.length=3):∃ a b c,us=[a,b,c]:=by obtain ⟨a,vs,rfl,h2⟩:=lnS h; obtain ⟨b,c,rfl⟩:=ln2 h2; exact ⟨a,b,c,rfl⟩
theorem ln4 {α:Type} {us:List α} (h:us.length=4):∃ a b c d,us=[a,b,c,d]:=by obtain ⟨a,vs,rfl,h2⟩:=lnS h; obtain ⟨b,c,d,rfl⟩:=ln3 h2; exact ⟨a,b,c,d,rfl⟩
theorem ln5 {α:Type} {us:List α} (h:us.length=5):∃ a b c d e,us=[a,b,c,d,e]:=by obtain ⟨a,vs,rfl,h2⟩:=lnS h; obtain ⟨b,c,d,e,rfl⟩:=ln4 h2; exact ⟨a,b,c,d,e,rfl⟩
noncomputable def AllL (P:String→MDef→Prop):List (String×MDef)→Prop
  | []=>True
  | p::r=>P p.1 p.2∧AllL P r
theorem allL_look {P:String→MDef→Prop} {f:String} {d:MDef}:∀ {L:List (String×MDef)},AllL P L→L.lookup f=some d→P f d
  | [],_,h=>by cases h
  | (g,e)::r,⟨a,b⟩,h=>by
    rw [List.lookup_cons] at h
    cases hb:f == g with
    | true =>
      rw [hb] at h
      cases h
      rw [show f=g by simpa using hb]; exact a
    | false =>
      rw [hb] at h
      exact allL_look b h
noncomputable def PrimOk (K:PySem.W.Frag) (mg:Str→Option Value) (Pm:Prog) (ct:Tx) (f:String) (ps:List Str):Prop :=
  ∀ (P:Program) (w:World) (base:Heap) (n:Nat),K.In base→(ct.cd≠0→LamB mg base ct.cd ct.tb)→DefOk P w K mg base (Str.ofString f) (2 * (n + 1)) ps (spR ct (MP.run Pm (n + 1) f))
structure Text (K:PySem.W.Frag) (mg:Str→Option Value) (Pm:Prog) (ct:Tx):Prop where
  hK:K=ct.K
  defs:∀ f d,Pm.defs f=some d→f.toList.contains '.'=false→∃ st N ps,Src K mg (Str.ofString f) st ps∧(defB Pm d N ps st=true∨PrimOk K mg Pm ct f ps)
  inits:∀ c f,Pm.meths c "__init__"=some f→∃ d st N ps fa fd x qual,Pm.defs f=some d∧Mk K (ct c) fa∧Fun K x qual st fa fd∧Binds K fd ps []∧mg (Str.ofString c)=some (.ref (ct c))∧defB Pm d N ps st=true
  blts:∀ x∈fnNames++tyNames++isTys++["range","zip","enumerate","isinstance","sorted","reversed","set"],mg (Str.ofString x)=none
  fok:∀ c f,Pm.fok c f=true→Cls K (ct c)∧NoAttr K (ct c) (Str.ofString f)
  cls:∀ c t b,Pm.subs c t=some b→ClsOk K (ct c)
  subC:∀ c t b,Pm.subs c t=some b→isTys.contains t=false→mg (Str.ofString t)=some (.ref (ct t))∧PySem.W.kitOne K (.ref (ct c)) (.ref (ct t))=some b
  subT:∀ c t b,Pm.subs c t=some b→isTys.contains t=true→PySem.W.kitOne K (.ref (ct c)) (.type t)=some b
  tyC:∀ t c b,Pm.subs c t=some b→isTys.contains t=false→∀ T∈["NoneType","bool","int","str","list","tuple"],PySem.W.kitOne K (.type T) (.ref (ct t))=some false
  excs:∀ c,Pm.excs c=true→ExcC K (ct c)∧mg (Str.ofString c)=some (.ref (ct c))
  words:∀ wd,Pm.words wd=true→ExcC K (ct "DotError")∧mg "DotError"=some (.ref (ct "DotError"))∧(∀ (P:Program) (w:World) (base:Heap),∃ ps,DefOkH P w K mg base (Str.ofString wd) 1 ps (spW ct Pm wd)) ∧
    ∀ c s,Pm.word wd c=some s→ExcC K (ct c)∧(mroTl K (ct c)).contains (.ref (ct "DotError"))=true
  xcls:∀ t,Pm.xcls t=true→(if t="ValueError" then mg "ValueError"=none else mg (Str.ofString t)=some (.ref (ct t)))
  xs:∀ c t b,Pm.xsubs c t=some b→ExcK K (ct c)∧PySem.W.kitOne K (.ref (ct c)) (if t="ValueError" then .type "ValueError" else .ref (ct t))=some b
  dfl:∀ f ds,Pm.dfl f ds=true→∃ d st N ps fa fd dvals,Pm.defs f=some d∧FunD K (Str.ofString f) (Str.ofString f) st fa fd∧Binds K fd ps dvals∧Vals (ds.map V.int) dvals∧mg (Str.ofString f)=some (.ref fa)∧defB Pm d N ps st=true
  meths:∀ c m f,Pm.meths c m=some f→m≠"__init__"→Cls K (ct c)∧∃ d st N ps fa fd x qual,Pm.defs f=some d∧Meth K (ct c) (Str.ofString m) fa∧Fun K x qual st fa fd∧Binds K fd ps []∧defB Pm d N ps st=true
  mk0:∀ c,Pm.mk0 c=true→Mk0 K (ct c)∧mg (Str.ofString c)=some (.ref (ct c))
  globs:∀ x v,Pm.globs x=some v→GlobOk mg x v
  xdot:Pm.xt=true→ExcC K (ct "DotError")∧mg "DotError"=some (.ref (ct "DotError"))∧∀ c b,Pm.xsubs c c=some b→ExcC K (ct c)∧(mroTl K (ct c)).contains (.ref (ct "DotError"))=true
theorem sp0 {ct:Tx} {Pm:Prog} {f:String} {vs:List V} {H:Hp} {Q:VK} {E:XK} (h:spR ct (MP.run Pm 0 f) vs H Q E):False:=by
  obtain ⟨μ,h,ms,rel,rvs,p⟩:=h
  exact p
theorem txt_all {P:Program} {w:World} {K:PySem.W.Frag} {mg:Str→Option Value} {base:Heap} {Pm:Prog} {ct:Tx} (T:Text K mg Pm ct) (kb:K.In base) (lb:ct.cd≠0→LamB mg base ct.cd ct.tb):∀ n,Txt P w K mg base Pm ct n
  | 0=>⟨fun f d hd hdot=>by
      obtain ⟨st,N,ps,⟨fa,fd,F,b,m⟩,hb⟩:=T.defs f d hd hdot
      exact ⟨ps,fa,fd,⟨fun vs H Q E h=>(sp0 h).elim,fun A outer s H args us vs Q E _ _ _ _ h=>(sp0 h).elim⟩,b,F.kp,m⟩,
    fun c f hi=>by
      obtain ⟨d,st,N,ps,fa,fd,x,qual,hd,M,F,b,m,hb⟩:=T.inits c f hi
      exact ⟨ps,fa,fd,M,⟨fun vs H Q E h=>(sp0 h).elim,fun A outer s H args us vs Q E _ _ _ _ h=>(sp0 h).elim⟩,b,m⟩,
    T.blts,T.fok,T.cls,T.subC,T.subT,T.tyC,T.excs,fun wd hw=>let ⟨a,b,c,d⟩:=T.words wd hw; ⟨a,b,c P w base,d⟩,T.xcls,T.xs,fun f ds hf=>let ⟨d,st,N,ps,fa,fd,dvals,hd,F,b,vd,m,hb⟩:=T.dfl f ds hf; ⟨ps,fa,fd,dvals,⟨fun vs H Q E h=>(sp0 h).elim,fun A outer s H args us vs Q E _ _ _ _ h=>(sp0 h).elim⟩,b,vd,F.kp,m⟩,T.xdot,fun c m f hm hi=>by
      obtain ⟨cl,d,st,N,ps,fa,fd,x,qual,hd,M,F,b,hb⟩:=T.meths c m f hm hi
      exact ⟨cl,fa,fd,ps,M,⟨fun vs H Q E h=>(sp0 h).elim,fun A outer s H args us vs Q E _ _ _ _ h=>(sp0 h).elim⟩,b⟩,T.mk0,T.globs⟩
  | n + 1=>⟨fun f d hd hdot=>by
      obtain ⟨st,N,ps,S,hb⟩:=T.defs f d hd hdot
      exact ⟨ps,hb.elim (fun hb=>def_sound (txt_all T kb lb n) T.hK S hd hb) fun hp=>hp P w base n kb lb⟩,
    fun c f hi=>by
      obtain ⟨d,st,N,ps,fa,fd,x,qual,hd,M,F,b,m,hb⟩:=T.inits c f hi
      exact ⟨ps,fa,fd,M,fn_sound (txt_all T kb lb n) T.hK F hd hb,b,m⟩,
    T.blts,T.fok,T.cls,T.subC,T.subT,T.tyC,T.excs,fun wd hw=>let ⟨a,b,c,d⟩:=T.words wd hw; ⟨a,b,c P w base,d⟩,T.xcls,T.xs,fun f ds hf=>let ⟨d,st,N,ps,fa,fd,dvals,hd,F,b,vd,m,hb⟩:=T.dfl f ds hf; ⟨ps,fa,fd,dvals,fnD_sound (txt_all T kb lb n) T.hK F hd hb,b,vd,F.kp,m⟩,T.xdot,fun c m f hm hi=>by
      obtain ⟨cl,d,st,N,ps,fa,fd,x,qual,hd,M,F,b,hb⟩:=T.meths c m f hm hi
      exact ⟨cl,fa,fd,ps,M,fn_sound (txt_all T kb lb n) T.hK F hd hb,b⟩,T.mk0,T.globs⟩
theorem law_sp {K:PySem.W.Frag} {ct:Tx} {Pm:Prog} {n:Nat} {H:Hp} {a:Addr} {ns:List Int} (hK:K=ct.K) (hO:Only H) (hS:SqL K H a (ns.map V.int)) (main:∃ h,MP.run Pm n "law" [.f (.scr ns)] []=.ok (.f (.bl true)) h) :
    spR ct (MP.run Pm n "law") [.ref a] H (fun v _=>v=.bl true) fun _ _ _=>False:=by
  subst hK
  refine ⟨[],[],[.f (.scr ns)],⟨rfl,List.nodup_nil,fun b hb=>by simp at hb,fun i b c e=>by simp at e⟩,RVs.cons ?_ RVs.nil,?_⟩
  · simp only [RV,RF]
    refine ⟨a,rfl,?_⟩
    rcases hS with (e | ⟨o,e⟩) | e
    · rcases hO a with z | ⟨o,xs,z⟩
      · rw [z] at e; cases e
      · rw [z] at e; cases e
    · exact .inl ⟨fun ⟨i,c,e,_⟩=>by simp at e,o,e⟩
    · exact .inr e
  · obtain ⟨h,e⟩:=main
    rw [e]
    intro μ' H' _ _ v rv
    exact rv_bl rv
end SD
end
section
set_option maxHeartbeats 4000000
namespace SD
open PySem PySem.Spec PyProof.Rows L2 L3 M3 MP
section
variable {K:PySem.W.Frag} {t C:Addr} {cd:ClassData}
theorem kit_of {T:String} (m:PySem.W.subIn K (.type T) (.ref C)=some false) (ci:PySem.W.clsIn K C=some cd) (ty:PySem.W.typeIn K (.ref C)=some (.type "type")):PySem.W.kitOne K (.type T) (.ref C)=some false:=by
  unfold PySem.W.kitOne PySem.W.kitCls
  rw [if_neg (fun e=>by have e':Value.type T=Value.ref C:=eq_of_beq e; cases e')]
  show (if ((PySem.W.clsIn K C).isSome&&PySem.W.typeIn K (.ref C) == some (.type "type"))=true then PySem.W.subIn K (.type T) (.ref C) else none)=some false
  rw [ci,ty,if_pos (by rfl),m]
theorem sub_all (C:Addr):∀ T∈["NoneType","bool","int","str","list","tuple"],PySem.W.subIn K (.type T) (.ref C)=some false:=by
  intro T hT
  simp only [List.mem_cons,List.not_mem_nil,or_false] at hT
  rcases hT with rfl | rfl | rfl | rfl | rfl | rfl <;> rfl
end
theorem src_mk {K:PySem.W.Frag} {h:Heap} {mg:Str→Option Value} {x:Str} {st:Stmt} {ps:List Str} {f:Addr} {oc:Value} {od an:Option Addr} {osl:Array (Option Value)} {kV doc pm cdv ct:Value} (X:K.In h) (G:h.Ns mainGlobals mg)
    (hb:∀ (kV doc pm:Value) (an:Option Addr) (cdv ct:Value) (us:List Value),us.length=ps.length→bindArgs (PySem.W.fnOf x x (defArgs st) (defBody st) (defScope st) .none kV doc pm an cdv ct) ⟨us,[]⟩=pure (ps.zip us))
    (a:PySem.W.nsIn K mainGlobals x=some (some (.ref f))) (l:K.lookup f=some ⟨oc,od,.func (PySem.W.fnOf x x (defArgs st) (defBody st) (defScope st) .none kV doc pm an cdv ct),osl⟩)
    (c:PySem.W.codeIn K cdv x=true) (k:PySem.W.keepIn K (.ref f)=true):Src K mg x st ps :=
  ⟨f,_,funD_mk (st:=st) l c k,(fun_mk (st:=st) l c k).binds hb,PySem.W.mg_of X G a⟩
noncomputable def spLaw (K:PySem.W.Frag):Sp:=fun vs H Q E=>∃ (a:Addr) (ns:List Int),vs=[.ref a]∧ns.length≤63∧Only H∧SqL K H a (ns.map V.int)∧Q=(fun v _=>v=.bl true)∧E=fun _ _ _=>False
theorem law_fn {P:Program} {w:World} {K:PySem.W.Frag} {mg:Str→Option Value} {base:Heap} {Pm:Prog} {ct:Tx} {n:Nat} {d:MDef} {N ps:List Str} {st:Stmt} {fa:Addr} {fd:FuncData} (T:Text K mg Pm ct) (kb:K.In base) (lb:ct.cd≠0→LamB mg base ct.cd ct.tb) (F:Fun K "law" "law" st fa fd) (hd:Pm.defs "law"=some d) (hb:defB Pm d N ps st=true)
    (main:∀ ns:List Int,ns.length≤63→∃ h,MP.run Pm (n + 1) "law" [.f (.scr ns)] []=.ok (.f (.bl true)) h):FnOk P w K mg base (CX1 P w) (2 * (n + 1)) fa fd ps (spLaw K) :=
  (fn_sound (txt_all T kb lb n) T.hK F hd hb).imp fun vs H Q E ⟨a,ns,e1,hl,hO,hS,e2,e3⟩=>by
    subst e1; subst e2; subst e3
    exact law_sp T.hK hO hS (main ns hl)
theorem walk {l:PySem.W.OpenLaw} {q:Program} {loose:List Str} {XP:(Str→Option Value)→Heap→Prop} {YP:World→Heap→Prop} {d:DefRec} {K:Params→PySem.W.Frag} {k:Nat} (hn:l.most=some 63) (hdf:d.params.defaults=[]) (hr:Room k callerA)
    (hY:∀ (w:World) (h:Heap),YP w h→(K w.params).In h)
    (F:∀ (w:World) (mg:Str→Option Value) (fa:Addr) (h:Heap),(K w.params).In h→h.Ns mainGlobals mg→mg d.name=some (.ref fa) →
      ∃ fd:FuncData,(∀ (s:Shared) (u:Value),BindsTo s fd ⟨[u],[]⟩ [("_law_script",u)])∧∀ base:Heap,(K w.params).In base→base.Ns mainGlobals mg→FnOk l.prog w (K w.params) mg base (CX1 l.prog w) k fa fd ["_law_script"] (spLaw (K w.params))) :
    PySem.W.WalkO q loose XP YP l.row.toRowW d [] (fun f vs=>PySem.call f vs) :=
  L2.walk_of (n:=63) (k:=k) (x:="_law_script") (CX:=fun w=>CX1 l.prog w) (sp:=fun w=>spLaw (K w.params)) hn (by decide) hdf hr hY F (fun _ _ a ns hl hO hS=>⟨a,ns,rfl,hl,hO,hS,rfl,rfl⟩) fun _ _ _ _ _ ⟨_,_,_,_,_,_,_,_,_,_,_,_,_,_,_,z⟩=>z
structure CK (K:PySem.W.Frag) (x:Str) (C:Addr) (cd:ClassData):Prop where
  a:PySem.W.nsIn K mainGlobals x=some (some (.ref C))
  ci:PySem.W.clsIn K C=some cd
  ty:PySem.W.typeIn K (.ref C)=some (.type "type")
  pg:PySem.W.plainGet K C Str.empty=true
  hd:PySem.W.hasDictIn K C=true
  po:PySem.W.plainOver K C=true
  sa:PySem.W.findIn K (.ref C) "__setattr__"=some (some (.builtin "object.__setattr__"))
  cl:PySem.W.findIn K (.ref C) "__class__"=some (some (.builtin "object.__class__"))
  mo:PySem.W.mroIn K C (.type "object")=some true
  s0:PySem.W.subIn K (.ref C) (.ref C)=some true
  k0:PySem.W.subIn K (.ref C) (.type "dict")=some false
  k1:PySem.W.subIn K (.ref C) (.type "list")=some false
  k2:PySem.W.subIn K (.ref C) (.type "tuple")=some false
  k3:PySem.W.subIn K (.ref C) (.type "str")=some false
  k4:PySem.W.subIn K (.ref C) (.type "int")=some false
  k5:PySem.W.subIn K (.ref C) (.type "bool")=some false
structure FK (K:PySem.W.Frag) (x q:Str) (st:Stmt) (f:Addr) (oc:Value) (od:Option Addr) (kV dc pm:Value) (an:Option Addr) (cv ct:Value) (sl:Array (Option Value)):Prop where
  im:PySem.W.isFn K (.ref f)=true
  lm:K.lookup f=some ⟨oc,od,.func (PySem.W.fnOf x q (defArgs st) (defBody st) (defScope st) .none kV dc pm an cv ct),sl⟩
  km:PySem.W.codeIn K cv q=true
  kpm:PySem.W.keepIn K (.ref f)=true
noncomputable def FE (K:PySem.W.Frag) (x q:Str) (st:Stmt) (f:Addr):Prop:=∃ oc od kV dc pm an cv ct sl,FK K x q st f oc od kV dc pm an cv ct sl
structure IK (K:PySem.W.Frag) (C f:Addr):Prop where
  ai:PySem.W.findIn K (.ref C) "__init__"=some (some (.ref f))
  mi:PySem.W.makesIn K C=true
  kc:PySem.W.keepIn K (.ref C)=true
noncomputable def AllT {β:Type} (P:String→String→β→Prop):List ((String×String)×β)→Prop
  | []=>True
  | ((c,t),b)::r=>P c t b∧AllT P r
theorem allT_look {β:Type} {P:String→String→β→Prop} {c t:String} {b:β}:∀ {L:List ((String×String)×β)},AllT P L→L.lookup (c,t)=some b→P c t b
  | [],_,h=>by cases h
  | ((x,y),e)::r,a,h=>by
    rw [List.lookup_cons] at h
    cases hb:(c,t) == (x,y) with
    | true =>
      rw [hb] at h
      cases h
      have z:(c,t)=(x,y):=eq_of_beq hb
      cases z
      exact a.1
    | false =>
      rw [hb] at h
      exact allT_look a.2 h
section
variable {K:PySem.W.Frag} {h:Heap} {mg:Str→Option Value} {Pm:Prog} {ct:Tx} {c t m g:String} {cd cd':ClassData} {b:Bool} {f:Addr} {st:Stmt} {N ps:List Str} {d:MDef} {q:Str}
theorem CK.cls {x:Str} {C:Addr} (k:CK K x C cd):Cls K C:=⟨k.pg,k.hd,k.po,k.sa⟩
noncomputable def SubP (K:PySem.W.Frag) (mg:Str→Option Value) (ct:Tx) (c t:String) (b:Bool):Prop:=Cls K (ct c)∧(∃ x cd,CK K x (ct c) cd) ∧
  (isTys.contains t=false→(∃ x cd,CK K x (ct t) cd)∧mg (Str.ofString t)=some (.ref (ct t))∧PySem.W.kitOne K (.ref (ct c)) (.ref (ct t))=some b)∧(isTys.contains t=true→PySem.W.kitOne K (.ref (ct c)) (.type t)=some b)
noncomputable def MethP (K:PySem.W.Frag) (mg:Str→Option Value) (Pm:Prog) (ct:Tx) (c m g:String):Prop:=Cls K (ct c)∧∃ d st N ps fa fd x qual,Pm.defs g=some d∧Meth K (ct c) (Str.ofString m) fa∧Fun K x qual st fa fd∧Binds K fd ps []∧defB Pm d N ps st=true ∧
  (m="__init__"→Mk K (ct c) fa∧mg (Str.ofString c)=some (.ref (ct c)))
noncomputable abbrev BindH (x q:Str) (st:Stmt) (ps:List Str):Prop:=∀ (kV doc pm:Value) (an:Option Addr) (cdv ct:Value) (us:List Value),us.length=ps.length→bindArgs (PySem.W.fnOf x q (defArgs st) (defBody st) (defScope st) .none kV doc pm an cdv ct) ⟨us,[]⟩=pure (ps.zip us)
theorem meth_i (X:K.In h) (G:h.Ns mainGlobals mg) (kC:CK K (Str.ofString c) (ct c) cd) (fe:FE K "__init__" q st f) (i:IK K (ct c) f) (hb:BindH "__init__" q st ps) (db:defB Pm d N ps st=true) (hd:Pm.defs g=some d):MethP K mg Pm ct c "__init__" g:=by
  obtain ⟨oc,od,kV,dc,pm,an,cv,ct',sl,k⟩:=fe
  have F:=fun_mk (st:=st) k.lm k.km k.kpm
  exact ⟨kC.cls,d,st,N,ps,f,_,_,q,hd,⟨i.ai,k.im,k.kpm⟩,F,F.binds hb,db,fun _=>⟨⟨i.mi,i.ai,k.im,i.kc⟩,PySem.W.mg_of X G kC.a⟩⟩
end
section
variable {K:PySem.W.Frag} {mg:Str→Option Value} {Pm:Prog} {ct:Tx} {c t m g:String} {b:Bool}
theorem initsT {L:List ((String×String)×String)} (T:AllT (MethP K mg Pm ct) L) (h:L.lookup (c,"__init__")=some g):∃ d st N ps fa fd x qual,Pm.defs g=some d∧Mk K (ct c) fa∧Fun K x qual st fa fd∧Binds K fd ps []∧mg (Str.ofString c)=some (.ref (ct c))∧defB Pm d N ps st=true:=by
  obtain ⟨_,d,st,N,ps,fa,fd,x,q,a,_,F,b,e,z⟩:=allT_look T h
  exact ⟨d,st,N,ps,fa,fd,x,q,a,(z rfl).1,F,b,(z rfl).2,e⟩
theorem methsT {L:List ((String×String)×String)} (T:AllT (MethP K mg Pm ct) L) (h:L.lookup (c,m)=some g):Cls K (ct c)∧∃ d st N ps fa fd x qual,Pm.defs g=some d∧Meth K (ct c) (Str.ofString m) fa∧Fun K x qual st fa fd∧Binds K fd ps []∧defB Pm d N ps st=true:=by
  obtain ⟨k,d,st,N,ps,fa,fd,x,q,a,M,F,b,e,z⟩:=allT_look T h
  exact ⟨k,d,st,N,ps,fa,fd,x,q,a,M,F,b,e⟩
variable {L:List ((String×String)×Bool)} (T:AllT (SubP K mg ct) L) (h:L.lookup (c,t)=some b)
include T h
theorem clsT (gn:PySem.W.specialIn K (.builtin "object.__class__") "__get__"=some (some (.builtin "getset_descriptor.__get__"))) (tk:PySem.W.takesIn K (.builtin "object.__class__")=some true):ClsOk K (ct c):=by
  obtain ⟨_,⟨x,cd,k⟩,_⟩:=allT_look T h
  exact ⟨k.cls,k.cl,gn,tk,k.mo⟩
theorem tyT (ht:isTys.contains t=false) {TT:String} (z:TT∈["NoneType","bool","int","str","list","tuple"]):PySem.W.kitOne K (.type TT) (.ref (ct t))=some false:=by
  obtain ⟨x,cd,k⟩:=((allT_look T h).2.2.1 ht).1
  exact kit_of (sub_all _ TT z) k.ci k.ty
end
end SD
end
section
set_option maxHeartbeats 4000000
namespace SD
open PySem PySem.Spec PyProof.Rows L2 L3 M3 MP
end SD
end
section
set_option maxHeartbeats 4000000
namespace SD
open PySem PySem.Spec PyProof.Rows L2 L3 M3 MP
end SD
end
section
namespace MP
open PySem
noncomputable def d_own_rows:MDef:=⟨1,1,[.ret (.blt true "tuple" [.comp true (.blt true "tuple" [.var 0]) (.nm 0) "seq" [.var 0] none 1 []])]⟩
noncomputable def d_fault_of:MDef:=⟨3,4,[.ite (.cmp .lt (.var 2) (.cI 1)) [.ret (.cS "the greatest number is below 1")] [],.ite (.or [.cmp .eq (.blt true "len" [.var 0]) (.cI 0),.cmp .eq (.blt true "len" [.sub (.var 0) (.cI 0)]) (.cI 0)]) [.ret (.cS "there are no cells")] [],.for_ (.nm 3) "seq" [.var 0] [.ite (.cmp .ne (.blt true "len" [.var 3]) (.blt true "len" [.sub (.var 0) (.cI 0)])) [.ret (.cS "the rows' lengths differ")] [],.ite (.or [.cmp .lt (.blt true "min" [.var 3]) (.var 1),.cmp .gt (.blt true "max" [.var 3]) (.var 2)]) [.ret (.cS "a number is below the least or above the greatest")] []],.ret (.cN)]⟩
noncomputable def d_cells_by_rows:MDef:=⟨2,4,[.set (.nm 2) (.lst false []),.for_ (.nm 3) "range" [.var 0] [.expr (.lm "extend" (.var 2) [.comp true (.tup [.var 1,.var 0]) (.nm 0) "range" [.var 1] none 1 [3]])],.ret (.var 2)]⟩
noncomputable def d_Tile___init__:MDef:=⟨3,5,[.set (.nm 3) (.call "own_rows" [.var 2]),.set (.nm 4) (.call "fault_of" [.var 3,.cI 1,.var 1]),.ite (.notN (.var 4)) [.boom] [],.setFld (.var 0) "count" (.var 1),.setFld (.var 0) "rows" (.var 3)]⟩
noncomputable def d_threshold_at:MDef:=⟨3,4,[.set (.nm 3) (.sub (.fld (.var 0) "rows") (.bin true .mod (.var 1) (.blt true "len" [.fld (.var 0) "rows"]))),.ret (.sub (.var 3) (.bin true .mod (.var 2) (.blt true "len" [.var 3])))]⟩
noncomputable def d_level_of:MDef:=⟨2,5,[.set (.nm 2) (.lst false []),.for_ (.tp [.nm 3,.nm 4]) "enumerate" [.fld (.var 0) "rows"] [.expr (.lm "extend" (.var 2) [.comp true (.tup [.var 2,.var 0]) (.tp [.nm 0,.nm 1]) "enumerate" [.var 4] (some (.cmp .le (.var 1) (.var 3))) 2 [3,1]])],.ret (.var 2)]⟩
noncomputable def d_spread_tile:MDef:=⟨2,8,[.ite (.or [.cmp .lt (.var 0) (.cI 1),.cmp .lt (.var 1) (.cI 1)]) [.boom] [],.set (.nm 2) (.frz (.call "cells_by_rows" [.var 0,.var 1])),.set (.nm 3) (.bin false .mul (.lst true [.cI 0]) (.blt true "len" [.var 2])),.set (.nm 4) (.bin true .mul (.lst true [.bin true .add (.bin true .mul (.var 0) (.var 0)) (.bin true .mul (.var 1) (.var 1))]) (.blt true "len" [.var 2])),.for_ (.nm 5) "range" [.cI 1,.bin true .add (.blt true "len" [.var 2]) (.cI 1)] [.set (.nm 6) (.tx2 .idx (.var 4) (.blt true "max" [.var 4])),.setSub (.var 3) (.var 6) (.var 5),.set (.nm 7) (.comp true (.call "distance" [.var 0,.sub (.var 3) (.var 4),.var 1,.var 2]) (.nm 0) "seq" [.var 2] none 1 [0,1,2,6]),.set (.nm 4) (.comp true (.blt true "min" [.var 0]) (.nm 0) "zip" [.var 4,.var 7] none 1 [])],.ret (.make true "Tile" [.blt true "len" [.var 2],.comp true (.slice true (.var 1) (some (.var 0)) (some (.bin true .add (.var 0) (.var 2)))) (.nm 0) "range" [.cI 0,.blt true "len" [.var 2],.var 1] none 1 [3,1]])]⟩
noncomputable def d_distance:MDef:=⟨4,6,[.set (.nm 4) (.call "round_edge" [.blt true "abs" [.bin true .sub (.sub (.var 0) (.cI 0)) (.sub (.var 1) (.cI 0))],.var 2]),.set (.nm 5) (.call "round_edge" [.blt true "abs" [.bin true .sub (.sub (.var 0) (.cI 1)) (.sub (.var 1) (.cI 1))],.var 3]),.ret (.bin true .add (.bin true .mul (.var 4) (.var 4)) (.bin true .mul (.var 5) (.var 5)))]⟩
noncomputable def d_round_edge:MDef:=⟨2,2,[.ret (.blt true "min" [.var 0,.bin true .sub (.var 1) (.var 0)])]⟩
noncomputable def d_nearest_two:MDef:=⟨2,8,[.set (.nm 2) (.frz (.call "level_of" [.var 0,.var 1])),.for_ (.tp [.nm 3,.nm 4,.nm 5]) "seq" [.call "steps_by_distance" [.blt true "len" [.fld (.var 0) "rows"],.blt true "len" [.sub (.fld (.var 0) "rows") (.cI 0)]]] [.for_ (.tp [.nm 6,.nm 7]) "seq" [.var 2] [.ite (.cmp .le (.call "threshold_at" [.var 0,.bin true .add (.var 6) (.var 4),.bin true .add (.var 7) (.var 5)]) (.var 1)) [.ret (.var 3)] [],.ite (.cmp .le (.call "threshold_at" [.var 0,.bin true .add (.var 6) (.var 4),.bin true .sub (.var 7) (.var 5)]) (.var 1)) [.ret (.var 3)] []]],.ret (.cN)]⟩
noncomputable def d_steps_by_distance:MDef:=⟨2,4,[.set (.nm 2) (.lst false []),.for_ (.nm 3) "range" [.bin true .add (.bin true .fdiv (.var 0) (.cI 2)) (.cI 1)] [.expr (.lm "extend" (.var 2) [.comp true (.tup [.bin true .add (.bin true .mul (.var 1) (.var 1)) (.bin true .mul (.var 0) (.var 0)),.var 1,.var 0]) (.nm 0) "range" [.bin true .add (.bin true .fdiv (.var 1) (.cI 2)) (.cI 1)] none 1 [3]])],.ret (.slice true (.tx1 .srtT (.var 2)) (some (.cI 1)) none)]⟩
noncomputable def d__law_next:MDef:=⟨2,4,[.setSub (.var 1) (.cI 0) (.bin true .add (.sub (.var 1) (.cI 0)) (.cI 1)),.set (.nm 2) (.cI 0),.ite (.cmp .gt (.blt true "len" [.var 0]) (.cI 0)) [.set (.nm 2) (.sub (.var 0) (.bin true .mod (.sub (.var 1) (.cI 0)) (.blt true "len" [.var 0])))] [],.set (.nm 3) (.bin true .mod (.bin true .mul (.bin true .add (.bin true .add (.bin true .mod (.var 2) (.cI 2147483647)) (.bin true .mul (.bin true .mul (.sub (.var 1) (.cI 0)) (.sub (.var 1) (.cI 0))) (.cI 7919))) (.cI 11)) (.cI 48271)) (.cI 2147483647)),.ret (.bin true .mod (.bin true .mul (.var 3) (.var 3)) (.cI 1999999973))]⟩
noncomputable def d__law_great:MDef:=⟨3,5,[.set (.nm 3) (.call "_law_next" [.var 0,.var 1]),.set (.nm 4) (.ite (.cmp .gt (.blt true "len" [.var 0]) (.cI 0)) (.sub (.var 0) (.bin true .mod (.sub (.var 1) (.cI 0)) (.blt true "len" [.var 0]))) (.cI 0)),.ite (.cmp .gt (.bin true .mod (.var 3) (.cI 5)) (.cI 0)) [.ret (.bin true .mod (.bin true .fdiv (.var 3) (.cI 5)) (.var 2))] [],.ret (.bin true .mod (.bin true .add (.bin true .mod (.var 4) (.bin true .pow (.cI 10) (.cI 25))) (.bin true .mul (.var 3) (.bin true .pow (.cI 10) (.cI 14)))) (.bin true .pow (.cI 10) (.cI 25)))]⟩
noncomputable def d__law_same:MDef:=⟨2,2,[.ite (.isI (.var 1) "dict") [.ite (.or [.not (.isI (.var 0) "dict"),.cmp .ne (.blt true "len" [.var 0]) (.blt true "len" [.var 1])]) [.ret (.cB false)] [],.ret (.blt true "all" [.comp true (.and [.cmp .inn (.var 0) (.var 1),.call "_law_same" [.sub (.var 1) (.var 0),.sub (.var 2) (.var 0)]]) (.nm 0) "seq" [.var 1] none 1 [0,1]])] [],.ite (.or [.isI (.var 1) "list",.isI (.var 1) "tuple"]) [.ite (.cmp .ne (.isI (.var 0) "list") (.isI (.var 1) "list")) [.ret (.cB false)] [],.ite (.cmp .ne (.isI (.var 0) "tuple") (.isI (.var 1) "tuple")) [.ret (.cB false)] [],.ret (.and [.cmp .eq (.blt true "len" [.var 0]) (.blt true "len" [.var 1]),.blt true "all" [.comp true (.call "_law_same" [.var 0,.var 1]) (.tp [.nm 0,.nm 1]) "zip" [.var 0,.var 1] none 2 []]])] [],.ite (.isI (.var 1) "str") [.ret (.and [.isI (.var 0) "str",.cmp .eq (.var 0) (.var 1)])] [],.ret (.and [.isI (.var 0) "int",.not (.isI (.var 0) "bool"),.cmp .eq (.var 0) (.var 1)])]⟩
noncomputable def d__law_drawn_size:MDef:=⟨2,4,[.set (.nm 2) (.call "_law_next" [.var 0,.var 1]),.set (.nm 3) (.lst true [.tup [.bin true .add (.cI 1) (.bin true .mod (.bin true .fdiv (.var 2) (.cI 5)) (.cI 6)),.bin true .add (.cI 1) (.bin true .mod (.bin true .fdiv (.var 2) (.cI 30)) (.cI 7))],.tup [.cI 1,.bin true .add (.cI 1) (.bin true .mod (.bin true .fdiv (.var 2) (.cI 5)) (.cI 60))],.tup [.bin true .add (.cI 1) (.bin true .mod (.bin true .fdiv (.var 2) (.cI 5)) (.cI 60)),.cI 1]]),.ret (.sub (.bin true .add (.var 3) (.lst true [.tup [.bin true .add (.cI 1) (.bin true .mod (.bin true .fdiv (.var 2) (.cI 5)) (.cI 9)),.bin true .add (.cI 1) (.bin true .mod (.bin true .fdiv (.var 2) (.cI 45)) (.cI 4))],.tup [.bin true .add (.cI 2) (.bin true .mod (.bin true .fdiv (.var 2) (.cI 5)) (.cI 3)),.bin true .add (.cI 2) (.bin true .mod (.bin true .fdiv (.var 2) (.cI 15)) (.cI 10))]])) (.bin true .mod (.var 2) (.cI 5)))]⟩
noncomputable def d__law_drawn_count:MDef:=⟨2,3,[.set (.nm 2) (.call "_law_next" [.var 0,.var 1]),.ret (.sub (.lst true [.cI 1,.bin true .add (.cI 1) (.bin true .mod (.bin true .fdiv (.var 2) (.cI 4)) (.cI 9)),.cI 16,.bin true .add (.cI 1) (.call "_law_great" [.var 0,.var 1,.cI 1000])]) (.bin true .mod (.var 2) (.cI 4)))]⟩
noncomputable def d__law_tile_rows:MDef:=⟨5,7,[.set (.nm 5) (.lst false []),.for_ (.nm 6) "range" [.var 3] [.expr (.lm "append" (.var 5) [.comp true (.bin true .add (.cI 1) (.bin true .mod (.call "_law_great" [.var 2,.var 3,.var 1]) (.var 1))) (.nm 0) "range" [.var 4] none 1 [2,0,1]])],.ret (.frz (.var 5))]⟩
noncomputable def d__law_far:MDef:=⟨4,6,[.set (.nm 4) (.bin true .mod (.bin true .sub (.sub (.var 0) (.cI 0)) (.sub (.var 1) (.cI 0))) (.var 2)),.set (.nm 5) (.bin true .mod (.bin true .sub (.sub (.var 0) (.cI 1)) (.sub (.var 1) (.cI 1))) (.var 3)),.set (.nm 4) (.blt true "min" [.var 4,.bin true .sub (.var 2) (.var 4)]),.set (.nm 5) (.blt true "min" [.var 5,.bin true .sub (.var 3) (.var 5)]),.ret (.bin true .add (.bin true .mul (.var 4) (.var 4)) (.bin true .mul (.var 5) (.var 5)))]⟩
noncomputable def d__law_spread:MDef:=⟨2,8,[.set (.nm 2) (.lst false []),.for_ (.nm 3) "range" [.var 0] [.set (.nm 2) (.bin false .add (.var 2) (.comp true (.tup [.var 1,.var 0]) (.nm 0) "range" [.var 1] none 1 [3]))],.set (.nm 4) (.comp false (.bin true .add (.bin true .mul (.var 1) (.var 1)) (.bin true .mul (.var 2) (.var 2))) (.nm 0) "seq" [.var 2] none 1 [0,1]),.set (.nm 5) (.lst false []),.while_ (.cmp .gt (.blt true "len" [.var 2]) (.cI 0)) [.set (.nm 6) (.tx2 .idx (.var 4) (.blt true "max" [.var 4])),.set (.nm 7) (.lm "pop" (.var 2) [.var 6]),.expr (.lm "append" (.var 5) [.tup [.var 7,.lm "pop" (.var 4) [.var 6]]]),.set (.nm 4) (.comp false (.blt true "min" [.sub (.var 1) (.var 0),.call "_law_far" [.var 2,.sub (.var 5) (.var 0),.var 3,.var 4]]) (.nm 0) "range" [.blt true "len" [.var 2]] none 1 [4,7,0,1,2])],.ret (.frz (.var 5))]⟩
noncomputable def d__law_spread_size:MDef:=⟨2,4,[.set (.nm 2) (.call "_law_next" [.var 0,.var 1]),.set (.nm 3) (.lst true [.tup [.bin true .add (.cI 1) (.bin true .mod (.bin true .fdiv (.var 2) (.cI 5)) (.cI 5)),.bin true .add (.cI 1) (.bin true .mod (.bin true .fdiv (.var 2) (.cI 30)) (.cI 5))],.tup [.cI 1,.bin true .add (.cI 1) (.bin true .mod (.bin true .fdiv (.var 2) (.cI 5)) (.cI 24))],.tup [.bin true .add (.cI 1) (.bin true .mod (.bin true .fdiv (.var 2) (.cI 5)) (.cI 24)),.cI 1],.tup [.cI 2,.bin true .add (.cI 1) (.bin true .mod (.bin true .fdiv (.var 2) (.cI 5)) (.cI 12))]]),.ret (.sub (.bin true .add (.var 3) (.lst true [.tup [.bin true .add (.cI 1) (.bin true .mod (.bin true .fdiv (.var 2) (.cI 5)) (.cI 5)),.cI 5]])) (.bin true .mod (.var 2) (.cI 5)))]⟩
noncomputable def d__law_due:MDef:=⟨2,8,[.set (.nm 2) (.lst true []),.for_ (.nm 3) "range" [.blt true "len" [.var 0]] [.set (.nm 2) (.bin true .add (.var 2) (.comp true (.tup [.var 1,.var 0]) (.nm 0) "range" [.blt true "len" [.sub (.var 0) (.var 3)]] (some (.cmp .le (.sub (.sub (.var 3) (.var 1)) (.var 0)) (.var 2))) 1 [3,1,0]))],.set (.nm 4) (.cN),.for_ (.nm 5) "range" [.blt true "len" [.var 2]] [.for_ (.nm 6) "seq" [.slice true (.var 2) none (some (.var 5))] [.set (.nm 7) (.call "_law_far" [.sub (.var 2) (.var 5),.var 6,.blt true "len" [.var 0],.blt true "len" [.sub (.var 0) (.cI 0)]]),.ite (.or [.isN (.var 4),.cmp .lt (.var 7) (.var 4)]) [.set (.nm 4) (.var 7)] []]],.ret (.var 4)]⟩
noncomputable def d__law_fine:MDef:=⟨2,2,[.ite (.isN (.var 1)) [.ret (.isN (.var 0))] [],.ret (.call "_law_same" [.var 0,.var 1])]⟩
noncomputable def d_law:MDef:=⟨1,13,[.set (.nm 1) (.lst false [.cI 0]),.set (.nm 2) (.call "_law_drawn_size" [.var 0,.var 1]),.set (.nm 3) (.call "_law_drawn_count" [.var 0,.var 1]),.set (.nm 4) (.call "_law_tile_rows" [.var 0,.var 1,.var 3,.blt true "min" [.cI 6,.sub (.var 2) (.cI 0)],.blt true "min" [.cI 5,.sub (.var 2) (.cI 1)]]),.ite (.cmp .eq (.blt true "len" [.var 4]) (.cI 1)) [.set (.nm 4) (.call "_law_tile_rows" [.var 0,.var 1,.var 3,.cI 1,.blt true "min" [.cI 30,.sub (.var 2) (.cI 1)]])] [],.set (.nm 5) (.make true "Tile" [.var 3,.var 4]),.set (.nm 6) (.call "_law_next" [.var 0,.var 1]),.for_ (.nm 7) "seq" [.lst true [.neg (.cI 1),.cI 0,.cI 1,.bin true .add (.cI 1) (.bin true .mod (.var 6) (.var 3)),.bin true .add (.cI 1) (.bin true .mod (.bin true .fdiv (.var 6) (.cI 7)) (.var 3)),.var 3,.bin true .add (.var 3) (.cI 1)]] [.ite (.not (.call "_law_fine" [.call "nearest_two" [.var 5,.var 7],.call "_law_due" [.var 4,.var 7]])) [.ret (.cB false)] []],.set (.tp [.nm 8,.nm 9]) (.call "_law_spread_size" [.var 0,.var 1]),.set (.nm 10) (.call "spread_tile" [.var 8,.var 9]),.set (.nm 11) (.call "_law_spread" [.var 8,.var 9]),.ite (.or [.notN (.call "nearest_two" [.var 10,.cI 0]),.notN (.call "nearest_two" [.var 10,.cI 1])]) [.ret (.cB false)] [],.for_ (.nm 12) "range" [.cI 3] [.set (.nm 7) (.bin true .add (.cI 2) (.bin true .mod (.call "_law_next" [.var 0,.var 1]) (.blt true "max" [.cI 1,.bin true .sub (.blt true "len" [.var 11]) (.cI 1)]))),.ite (.and [.cmp .le (.var 7) (.blt true "len" [.var 11]),.not (.call "_law_same" [.call "nearest_two" [.var 10,.var 7],.sub (.sub (.var 11) (.bin true .sub (.var 7) (.cI 1))) (.cI 1)])]) [.ret (.cB false)] []],.ret (.cB true)]⟩
noncomputable def defsL:List (String×MDef):=[("own_rows",d_own_rows),("fault_of",d_fault_of),("cells_by_rows",d_cells_by_rows),("Tile.__init__",d_Tile___init__),("threshold_at",d_threshold_at),("level_of",d_level_of),("spread_tile",d_spread_tile),("distance",d_distance),("round_edge",d_round_edge),("nearest_two",d_nearest_two),("steps_by_distance",d_steps_by_distance),("_law_next",d__law_next),("_law_great",d__law_great),("_law_same",d__law_same),("_law_drawn_size",d__law_drawn_size),("_law_drawn_count",d__law_drawn_count),("_law_tile_rows",d__law_tile_rows),("_law_far",d__law_far),("_law_spread",d__law_spread),("_law_spread_size",d__law_spread_size),("_law_due",d__law_due),("_law_fine",d__law_fine),("law",d_law)]
noncomputable def methsL:List ((String×String)×String):=[(("Tile","__init__"),"Tile.__init__")]
noncomputable def subsL:List ((String×String)×Bool):=[]
noncomputable def prog:Prog where
  defs:=fun f=>defsL.lookup f
  globs:=fun x=>match x with
    | _=>none
  meths:=fun c m=>methsL.lookup (c,m)
  subs:=fun c t=>subsL.lookup (c,t)
  fok:=fun c n=>match c,n with
    | "Tile","count"=>true
    | "Tile","rows"=>true
    | _,_=>false
  word:=fun w c=>match w,c with
    | _,_=>none
  words:=fun w=>match w with
    | _=>false
  excs:=fun c=>match c with
    | _=>false
  turns:=1000000
@[simp] theorem p_d_own_rows:prog.defs "own_rows"=some d_own_rows:=rfl
@[simp] theorem p_d_fault_of:prog.defs "fault_of"=some d_fault_of:=rfl
@[simp] theorem p_d_cells_by_rows:prog.defs "cells_by_rows"=some d_cells_by_rows:=rfl
@[simp] theorem p_d_Tile___init__:prog.defs "Tile.__init__"=some d_Tile___init__:=rfl
@[simp] theorem p_d_threshold_at:prog.defs "threshold_at"=some d_threshold_at:=rfl
@[simp] theorem p_d_level_of:prog.defs "level_of"=some d_level_of:=rfl
@[simp] theorem p_d_spread_tile:prog.defs "spread_tile"=some d_spread_tile:=rfl
@[simp] theorem p_d_distance:prog.defs "distance"=some d_distance:=rfl
@[simp] theorem p_d_round_edge:prog.defs "round_edge"=some d_round_edge:=rfl
@[simp] theorem p_d_nearest_two:prog.defs "nearest_two"=some d_nearest_two:=rfl
@[simp] theorem p_d_steps_by_distance:prog.defs "steps_by_distance"=some d_steps_by_distance:=rfl
@[simp] theorem p_d__law_next:prog.defs "_law_next"=some d__law_next:=rfl
@[simp] theorem p_d__law_great:prog.defs "_law_great"=some d__law_great:=rfl
@[simp] theorem p_d__law_same:prog.defs "_law_same"=some d__law_same:=rfl
@[simp] theorem p_d__law_drawn_size:prog.defs "_law_drawn_size"=some d__law_drawn_size:=rfl
@[simp] theorem p_d__law_drawn_count:prog.defs "_law_drawn_count"=some d__law_drawn_count:=rfl
@[simp] theorem p_d__law_tile_rows:prog.defs "_law_tile_rows"=some d__law_tile_rows:=rfl
@[simp] theorem p_d__law_far:prog.defs "_law_far"=some d__law_far:=rfl
@[simp] theorem p_d__law_spread:prog.defs "_law_spread"=some d__law_spread:=rfl
@[simp] theorem p_d__law_spread_size:prog.defs "_law_spread_size"=some d__law_spread_size:=rfl
@[simp] theorem p_d__law_due:prog.defs "_law_due"=some d__law_due:=rfl
@[simp] theorem p_d__law_fine:prog.defs "_law_fine"=some d__law_fine:=rfl
@[simp] theorem p_d_law:prog.defs "law"=some d_law:=rfl
@[simp] theorem f_Tile_count:prog.fok "Tile" "count"=true:=rfl
@[simp] theorem f_Tile_rows:prog.fok "Tile" "rows"=true:=rfl
@[simp] theorem m_Tile___init__:prog.meths "Tile" "__init__"=some "Tile.__init__":=rfl
theorem run_succ (n:Nat) (f:String) (as:List MV) (h:MH):run prog (n + 1) f as h=opt (prog.defs f) fun d=>if as.length=d.np then leaveS h (execSs prog (run prog n) d.body (as.map some++List.replicate (d.ns - d.np) none) h) else .stuck:=rfl
theorem r_d_cells_by_rows (n:Nat) (a0 a1:MV) (h:MH):run prog (n + 1) "cells_by_rows" [a0,a1] h=leaveS h (execSs prog (run prog n) d_cells_by_rows.body [some a0,some a1,none,none] h):=by rw [run_succ,p_d_cells_by_rows]; rfl
theorem r_d_threshold_at (n:Nat) (a0 a1 a2:MV) (h:MH):run prog (n + 1) "threshold_at" [a0,a1,a2] h=leaveS h (execSs prog (run prog n) d_threshold_at.body [some a0,some a1,some a2,none] h):=by rw [run_succ,p_d_threshold_at]; rfl
theorem r_d_level_of (n:Nat) (a0 a1:MV) (h:MH):run prog (n + 1) "level_of" [a0,a1] h=leaveS h (execSs prog (run prog n) d_level_of.body [some a0,some a1,none,none,none] h):=by rw [run_succ,p_d_level_of]; rfl
theorem r_d_spread_tile (n:Nat) (a0 a1:MV) (h:MH):run prog (n + 1) "spread_tile" [a0,a1] h=leaveS h (execSs prog (run prog n) d_spread_tile.body [some a0,some a1,none,none,none,none,none,none] h):=by rw [run_succ,p_d_spread_tile]; rfl
theorem r_d_distance (n:Nat) (a0 a1 a2 a3:MV) (h:MH):run prog (n + 1) "distance" [a0,a1,a2,a3] h=leaveS h (execSs prog (run prog n) d_distance.body [some a0,some a1,some a2,some a3,none,none] h):=by rw [run_succ,p_d_distance]; rfl
theorem r_d_round_edge (n:Nat) (a0 a1:MV) (h:MH):run prog (n + 1) "round_edge" [a0,a1] h=leaveS h (execSs prog (run prog n) d_round_edge.body [some a0,some a1] h):=by rw [run_succ,p_d_round_edge]; rfl
theorem r_d_nearest_two (n:Nat) (a0 a1:MV) (h:MH):run prog (n + 1) "nearest_two" [a0,a1] h=leaveS h (execSs prog (run prog n) d_nearest_two.body [some a0,some a1,none,none,none,none,none,none] h):=by rw [run_succ,p_d_nearest_two]; rfl
theorem r_d_steps_by_distance (n:Nat) (a0 a1:MV) (h:MH):run prog (n + 1) "steps_by_distance" [a0,a1] h=leaveS h (execSs prog (run prog n) d_steps_by_distance.body [some a0,some a1,none,none] h):=by rw [run_succ,p_d_steps_by_distance]; rfl
theorem r_d__law_great (n:Nat) (a0 a1 a2:MV) (h:MH):run prog (n + 1) "_law_great" [a0,a1,a2] h=leaveS h (execSs prog (run prog n) d__law_great.body [some a0,some a1,some a2,none,none] h):=by rw [run_succ,p_d__law_great]; rfl
theorem r_d__law_same (n:Nat) (a0 a1:MV) (h:MH):run prog (n + 1) "_law_same" [a0,a1] h=leaveS h (execSs prog (run prog n) d__law_same.body [some a0,some a1] h):=by rw [run_succ,p_d__law_same]; rfl
theorem r_d__law_drawn_size (n:Nat) (a0 a1:MV) (h:MH):run prog (n + 1) "_law_drawn_size" [a0,a1] h=leaveS h (execSs prog (run prog n) d__law_drawn_size.body [some a0,some a1,none,none] h):=by rw [run_succ,p_d__law_drawn_size]; rfl
theorem r_d__law_drawn_count (n:Nat) (a0 a1:MV) (h:MH):run prog (n + 1) "_law_drawn_count" [a0,a1] h=leaveS h (execSs prog (run prog n) d__law_drawn_count.body [some a0,some a1,none] h):=by rw [run_succ,p_d__law_drawn_count]; rfl
theorem r_d__law_tile_rows (n:Nat) (a0 a1 a2 a3 a4:MV) (h:MH):run prog (n + 1) "_law_tile_rows" [a0,a1,a2,a3,a4] h=leaveS h (execSs prog (run prog n) d__law_tile_rows.body [some a0,some a1,some a2,some a3,some a4,none,none] h):=by rw [run_succ,p_d__law_tile_rows]; rfl
theorem r_d__law_far (n:Nat) (a0 a1 a2 a3:MV) (h:MH):run prog (n + 1) "_law_far" [a0,a1,a2,a3] h=leaveS h (execSs prog (run prog n) d__law_far.body [some a0,some a1,some a2,some a3,none,none] h):=by rw [run_succ,p_d__law_far]; rfl
theorem r_d__law_spread (n:Nat) (a0 a1:MV) (h:MH):run prog (n + 1) "_law_spread" [a0,a1] h=leaveS h (execSs prog (run prog n) d__law_spread.body [some a0,some a1,none,none,none,none,none,none] h):=by rw [run_succ,p_d__law_spread]; rfl
theorem r_d__law_spread_size (n:Nat) (a0 a1:MV) (h:MH):run prog (n + 1) "_law_spread_size" [a0,a1] h=leaveS h (execSs prog (run prog n) d__law_spread_size.body [some a0,some a1,none,none] h):=by rw [run_succ,p_d__law_spread_size]; rfl
theorem r_d__law_due (n:Nat) (a0 a1:MV) (h:MH):run prog (n + 1) "_law_due" [a0,a1] h=leaveS h (execSs prog (run prog n) d__law_due.body [some a0,some a1,none,none,none,none,none,none] h):=by rw [run_succ,p_d__law_due]; rfl
theorem r_d__law_fine (n:Nat) (a0 a1:MV) (h:MH):run prog (n + 1) "_law_fine" [a0,a1] h=leaveS h (execSs prog (run prog n) d__law_fine.body [some a0,some a1] h):=by rw [run_succ,p_d__law_fine]; rfl
theorem r_d_law (n:Nat) (a0:MV) (h:MH):run prog (n + 1) "law" [a0] h=leaveS h (execSs prog (run prog n) d_law.body [some a0,none,none,none,none,none,none,none,none,none,none,none,none] h):=by rw [run_succ,p_d_law]; rfl
noncomputable def rowV (b:Bool) (r:List Int):FV:=sq b (r.map .int)
noncomputable def rowsV (b1 b2:Bool) (rows:List (List Int)):FV:=sq b1 (rows.map (rowV b2))
theorem sizeL_eq:sizeL=4194304:=rfl
section
variable (h:MH)
theorem TrOk.obj (c:String) (fs:List (String×FV)) (ds:MH):TrOk (h++[.obj c []]) (h++.obj c (fs.map fun p=>(p.1,MV.f p.2))::ds):=by
  refine ⟨by simp,fun i d hi e=>?_⟩
  by_cases hl:i < h.length
  · rw [List.getElem?_append_left hl] at e ⊢; exact .inl e
  · have:i=h.length:=by simp at hi; lia
    subst this
    simp at e; subst e
    exact .inr ⟨fs,rfl⟩
end
@[simp] theorem cellL_at (xs:List MV) (t:MH):cellL (.lst xs::t) 0=some xs:=rfl
@[simp] theorem setCell_at (xs ys:List MV) (t:MH):setCell (.lst xs::t) 0 ys=.lst ys::t:=rfl
noncomputable def cellAt (ns:List Int) (k:Int):Int:=if ns=[] then 0 else ns.getD (k % ns.length).toNat 0
noncomputable def draw (ns:List Int) (k:Int):Int:=((cellAt ns k % 2147483647 + k * k * 7919 + 11) * 48271 % 2147483647) * ((cellAt ns k % 2147483647 + k * k * 7919 + 11) * 48271 % 2147483647) % 1999999973
theorem draw_nn (ns:List Int) (k:Int):0≤draw ns k∧draw ns k < 1999999973:=⟨Int.emod_nonneg _ (by decide),Int.emod_lt_of_pos _ (by decide)⟩
noncomputable abbrev atC (k:Int):Cell:=.lst [I k]
theorem mul_small {i j:Int} (h:j.natAbs < 2 ^ 64):mulOk i j:=.inr (.inl h)
section
variable {h:MH}
@[simp] theorem lmV_append (a:Nat) (y:MV):lmV "append" (.ref a) [y] h=opt (cellL h a) fun xs=>if xs.length < sizeL then .ok (.f .non) (setCell h a (xs++[y])) else .stuck:=rfl
@[simp] theorem lmV_insert (a:Nat) (i:Int) (y:MV):lmV "insert" (.ref a) [.f (.int i),y] h=opt (cellL h a) fun xs=>if xs.length < sizeL∧-(2 ^ 63)≤i∧i < 2 ^ 63 then .ok (.f .non) (setCell h a (insertAt xs i y)) else .stuck:=rfl
end
theorem forL_range {bd:MV→MSt→MH→RS} (N:Nat) (Pv:Nat→MSt→MH→Prop) (σ:MSt) (h:MH) (h0:Pv 0 σ h)
    (step:∀ i σ h,i < N→Pv i σ h→∃ σ' h',bd (I i) σ h=.next σ' h'∧Pv (i + 1) σ' h'):∃ σ' h',forL [] bd ((List.range N).map fun (k:Nat)=>I k) σ h=.next σ' h'∧Pv N σ' h':=by
  have:=forL_inv (bd:=bd) (e:=fun k:Nat=>I k) Pv (List.range N) 0 σ h h0 (fun j y σ h hj pj=>by
    have hl:j < N:=by have:=(List.getElem?_eq_some_iff.mp hj).1; simpa using this
    have hy:y=j:=by rw [List.getElem?_range hl] at hj; exact (Option.some.inj hj).symm
    subst hy
    simp only [Nat.zero_add] at pj ⊢
    exact step y σ h hl pj)
  simpa using this
noncomputable def Own (h g:MH) (xs:List MV):Prop:=∃ t,g=h++.lst xs::t
namespace Own
variable {h g:MH} {xs:List MV}
theorem new (h:MH):Own h (h++[.lst xs]) xs:=⟨[],rfl⟩
theorem cell (o:Own h g xs) (c:Cell):cellL (c::g) (h.length + 1)=some xs:=by
  obtain ⟨t,rfl⟩:=o
  have:=cellL_app (c::h) t xs
  simpa using this
theorem set (o:Own h g xs) (c:Cell) (ys:List MV):∃ g',setCell (c::g) (h.length + 1) ys=c::g'∧Own h g' ys:=by
  obtain ⟨t,rfl⟩:=o
  exact ⟨h++.lst ys::t,by have:=setCell_app (c::h) t xs ys; simpa using this,t,rfl⟩
theorem frz {ys:List FV} (o:Own h g (ys.map .f)) (c:Cell):∃ t',frzV (.ref (h.length + 1)) (c::g)=.ok (.f (.lst ys)) (c::(h++t')):=by
  obtain ⟨t,rfl⟩:=o
  obtain ⟨t',e⟩:=frz_own (c::h) t ys
  exact ⟨t',by simpa using e⟩
end Own
theorem mod_lt (i j:Int) (hj:0 < j):0≤i % j∧i % j < j:=⟨Int.emod_nonneg _ (by lia),Int.emod_lt_of_pos _ hj⟩
theorem cellAt_at (ns:List Int) (hn:ns≠[]) (k:Int):atM (ns.map fun i=>MV.f (.int i)) (k % ns.length)=some (I (cellAt ns k)):=by
  have hl:0 < ns.length:=List.length_pos_iff.mpr hn
  have h0:0≤k % (ns.length:Int):=Int.emod_nonneg _ (by lia)
  have h1:k % (ns.length:Int) < ns.length:=Int.emod_lt_of_pos _ (by lia)
  rw [atM_pos _ _ h0,List.getElem?_map,List.getElem?_eq_getElem (by lia)]
  simp [cellAt,hn,List.getD,List.getElem?_eq_getElem (show (k % (ns.length:Int)).toNat < ns.length by lia)]
noncomputable def Nx (r:RS) (P:MSt→MH→Prop):Prop:=∃ σ h,r=.next σ h∧P σ h
noncomputable def Ret (r:R MV) (P:MV→MH→Prop):Prop:=∃ v h,r=.ok v h∧P v h
@[simp] theorem Nx_next (σ:MSt) (h:MH) (P:MSt→MH→Prop):Nx (.next σ h) P↔P σ h:=⟨fun ⟨_,_,e,p⟩=>by cases e; exact p,fun p=>⟨_,_,rfl,p⟩⟩
@[simp] theorem Ret_ok (v:MV) (h:MH) (P:MV→MH→Prop):Ret (.ok v h) P↔P v h:=⟨fun ⟨_,_,e,p⟩=>by cases e; exact p,fun p=>⟨_,_,rfl,p⟩⟩
section
variable {bd:MV→MSt→MH→RS} {σ:MSt} {h:MH} {k:MSt→MH→RS}
theorem for_range {Q:RS→Prop} (N:Nat) (Pv:Nat→MSt→MH→Prop) (h0:Pv 0 σ h) (step:∀ i σ h,i < N→Pv i σ h→∀ Q:MSt→MH→Prop,(∀ σ h,Pv (i + 1) σ h→Q σ h)→Nx (bd (I i) σ h) Q)
    (fin:∀ σ' h',Pv N σ' h'→Q (k σ' h')):Q ((forL [] bd ((List.range N).map fun (k:Nat)=>I k) σ h).bind k):=by
  obtain ⟨σ',h',e,p⟩:=forL_range N Pv σ h h0 fun i σ h hi p=>step i σ h hi p _ fun _ _ x=>x
  rw [e]
  exact fin σ' h' p
theorem for_list {α:Type} {e:α→MV} {Q:RS→Prop} (ys:List α) (Pv:Nat→MSt→MH→Prop) (h0:Pv 0 σ h) (step:∀ i y σ h,ys[i]?=some y→Pv i σ h→∀ Q:MSt→MH→Prop,(∀ σ h,Pv (i + 1) σ h→Q σ h)→Nx (bd (e y) σ h) Q)
    (fin:∀ σ' h',Pv ys.length σ' h'→Q (k σ' h')):Q ((forL [] bd (ys.map e) σ h).bind k):=by
  obtain ⟨σ',h',e,p⟩:=forL_inv (bd:=bd) (e:=e) Pv ys 0 σ h h0 (fun j y σ h hj pj=>by simp only [Nat.zero_add] at pj ⊢; exact step j y σ h hj pj _ fun _ _ x=>x)
  rw [e]
  exact fin σ' h' (by simpa using p)
end
theorem Ret.of {r:R MV} {P:MV→MH→Prop} (k:∀ Q:MV→MH→Prop,(∀ v h,P v h→Q v h)→Ret r Q):Ret r P:=k P fun _ _ x=>x
theorem Ret.eq {r:R MV} {a:MV} {b:MH} (k:∀ Q:MV→MH→Prop,(∀ v h,v=a∧h=b→Q v h)→Ret r Q):r=.ok a b:=by
  obtain ⟨v,h,e,rfl,rfl⟩:=k (fun v h=>v=a∧h=b) fun _ _ x=>x
  exact e
section
variable {h:MH} (sub:String→String→Option Bool) (t:String)
@[simp] theorem isIV_non:isIV sub h (.f .non) t=some false:=rfl
@[simp] theorem isIV_bl (b:Bool):isIV sub h (.f (.bl b)) t=some (decide (t="bool") || decide (t="int")):=rfl
@[simp] theorem isIV_int (i:Int):isIV sub h (.f (.int i)) t=some (decide (t="int")):=rfl
@[simp] theorem isIV_str (s:Str):isIV sub h (.f (.str s)) t=some (decide (t="str")):=rfl
@[simp] theorem isIV_tup (xs:List FV):isIV sub h (.f (.tup xs)) t=some (decide (t="tuple")):=rfl
@[simp] theorem isIV_lst (xs:List FV):isIV sub h (.f (.lst xs)) t=some (decide (t="list")):=rfl
@[simp] theorem isIV_obj (c:String) (ns:List String) (xs:List FV):isIV sub h (.f (.obj c ns xs)) t=sub c t:=rfl
end
noncomputable def isP:Nat→FV→Bool
  | _ + 1,.non=>true
  | _ + 1,.int _=>true
  | _ + 1,.str s=>sOk s
  | n + 1,.tup xs=>decide (xs.length≤sizeL)&&xs.all (isP n)
  | n + 1,.lst xs=>decide (xs.length≤sizeL)&&xs.all (isP n)
  | _,_=>false
noncomputable def isQ:Nat→FV→Bool
  | _ + 1,.int _=>true
  | _ + 1,.str s=>sOk s
  | n + 1,.tup xs=>decide (xs.length≤sizeL)&&xs.all (isQ n)
  | n + 1,.lst xs=>decide (xs.length≤sizeL)&&xs.all (isQ n)
  | _,_=>false
@[simp] theorem eqF_bl (a b:Bool):eqF (.bl a) (.bl b)=some (a == b):=by simp [eqF,eqD]
theorem zip_self {α:Type}:∀ xs:List α,xs.zip xs=xs.map fun x=>(x,x)
  | []=>rfl
  | x::r=>by simp [zip_self r]
theorem cut_lo (xs:List MV) (i:Int) (h0:0≤i) (h1:i≤xs.length):cutM xs none (some i)=xs.take i.toNat:=by
  have e:sIxM xs.length xs.length (some i)=i.toNat:=by simp only [sIxM]; rw [if_neg (by lia)]; lia
  simp only [cutM,e]; simp [sIxM]
theorem cut_hi (xs:List MV) (i:Int) (h0:0≤i) (h1:i≤xs.length):cutM xs (some i) none=xs.drop i.toNat:=by
  have e:sIxM xs.length 0 (some i)=i.toNat:=by simp only [sIxM]; rw [if_neg (by lia)]; lia
  simp only [cutM,e]
  exact List.take_of_length_le (by simp [sIxM])
structure Drawn (most:Int) (rows:List (List Int)) (i j:Nat):Prop where
  len:rows.length=i
  wid:∀ r∈rows,r.length=j
  sh:∀ r∈rows,∀ v∈r,0≤v∧v≤most
theorem atM_mem (xs:List MV) (i:Int) (h0:0≤i) (h1:i < xs.length):∃ v∈xs,atM xs i=some v:=by
  rw [atM_pos xs i h0,List.getElem?_eq_getElem (by lia)]
  exact ⟨_,List.getElem_mem (by lia),rfl⟩
theorem forL_end (bd:MV→MSt→MH→RS) (σ:MSt) (h:MH):forL [] bd [] σ h=.next σ h:=by simp [forL]
theorem bin_cat (xs ys:List FV) (h:MH) (c:xs.length + ys.length≤sizeL):binV true .add (.f (.lst xs)) (.f (.lst ys)) h=.ok (.f (.lst (xs++ys))) h:=by
  have:newL true (xs.map MV.f++ys.map MV.f) h=.ok (.f (.lst (xs++ys))) h:=by rw [← List.map_append,newL_true_mapf]
  simp [binV,c,this]
theorem for_all {bd:MV→MSt→MH→RS} {σ:MSt} {h:MH} {k:MSt→MH→RS} {Q:RS→Prop} (Pit:MV→Prop) (Pv:MSt→MH→Prop) {xs:List MV} (hx:∀ x∈xs,Pit x) (h0:Pv σ h)
    (step:∀ x σ h,Pit x→Pv σ h→∀ Q:MSt→MH→Prop,(∀ σ h,Pv σ h→Q σ h)→Nx (bd x σ h) Q) (fin:∀ σ' h',Pv σ' h'→Q (k σ' h')):Q ((forL [] bd xs σ h).bind k):=by
  have key:∀ (xs:List MV) (σ:MSt) (h:MH),(∀ x∈xs,Pit x)→Pv σ h→∃ σ' h',forL [] bd xs σ h=.next σ' h'∧Pv σ' h':=by
    intro xs
    induction xs with
    | nil=>intro σ h _ p; exact ⟨σ,h,forL_end _ _ _,p⟩
    | cons x xs ih =>
      intro σ h hx p
      obtain ⟨σ1,h1,e1,p1⟩:=step x σ h (hx x (by simp)) p _ fun _ _ z=>z
      obtain ⟨σ2,h2,e2,p2⟩:=ih σ1 h1 (fun y hy=>hx y (by simp [hy])) p1
      exact ⟨σ2,h2,by rw [forL_cons,e1,RS.turn_next,e2],p2⟩
  obtain ⟨σ',h',e,p⟩:=key xs σ h hx h0
  rw [e,RS.bind_next]
  exact fin σ' h' p
theorem bin_cat1 (xs ys:List FV) (h:MH) (c:xs.length + ys.length≤1000):binV true .add (.f (.lst xs)) (.f (.lst ys)) h=.ok (.f (.lst (xs++ys))) h:=bin_cat xs ys h (Nat.le_trans c (by decide))
end MP
end
section
namespace MP
open PySem
section
variable {h:MH}
theorem itV_range3 (h:MH) (a b s:Int) (c:-(2 ^ 30)≤a∧a < 2 ^ 30∧-(2 ^ 30)≤b∧b < 2 ^ 30∧0 < s∧s < 2 ^ 30):itV "range" [.f (.int a),.f (.int b),.f (.int s)] h=some ((List.range (rlen a b s)).map fun (k:Nat)=>I (a + k * s),[]):=if_pos c
@[simp] theorem lmV_extend (a:Nat) (z:MV):lmV "extend" (.ref a) [z] h=opt (cellL h a) fun xs=>opt (listOf h z) fun ys=>if xs.length + ys.length≤sizeL then .ok (.f .non) (setCell h a (xs++ys)) else .stuck:=rfl
@[simp] theorem lmV_pop (a:Nat):lmV "pop" (.ref a) [] h=opt (cellL h a) fun xs=>opt (xs[xs.length - 1]?) fun y=>.ok y (setCell h a (xs.take (xs.length - 1))):=rfl
@[simp] theorem lmV_popAt (a:Nat) (i:Int):lmV "pop" (.ref a) [.f (.int i)] h=opt (cellL h a) fun xs=>opt (ixM xs.length i) fun k=>opt (xs[k]?) fun y=>if -(2 ^ 63)≤i∧i < 2 ^ 63 then .ok y (setCell h a (xs.take k++xs.drop (k + 1))) else .stuck:=rfl
theorem cut_any (xs:List MV) (i j:Int) (h0:0≤i) (h1:i≤j):cutM xs (some i) (some j)=(xs.drop i.toNat).take (j.toNat - i.toNat):=by
  have e1:sIxM xs.length 0 (some i)=min i.toNat xs.length:=by simp only [sIxM]; rw [if_neg (by lia)]
  have e2:sIxM xs.length xs.length (some j)=min j.toNat xs.length:=by simp only [sIxM]; rw [if_neg (by lia)]
  simp only [cutM,e1,e2]
  apply List.ext_getElem?
  intro k
  simp only [List.getElem?_take,List.getElem?_drop]
  by_cases c:i.toNat≤xs.length
  · rw [Nat.min_eq_left c]
    by_cases c2:j.toNat≤xs.length
    · rw [Nat.min_eq_left c2]
    · rw [Nat.min_eq_right (by lia)]
      by_cases c3:i.toNat + k < xs.length
      · rw [if_pos (by lia),if_pos (by lia)]
      · rw [if_neg (by lia)]
        split
        · rw [List.getElem?_eq_none (by lia)]
        · rfl
  · rw [Nat.min_eq_right (by lia),Nat.min_eq_right (by lia)]
    rw [if_neg (by lia)]
    split
    · rw [List.getElem?_eq_none (by lia)]
    · rfl
end
theorem enum_map {α:Type} (f:α→FV) (xs:List α):(xs.map (MV.f∘f)).mapIdx (fun k x=>mkTup [.f (.int k),x])=xs.zipIdx.map fun p=>MV.f (.tup [.int p.2,f p.1]):=by
  rw [List.mapIdx_eq_zipIdx_map,List.zipIdx_map,List.map_map]
  rfl
theorem whileL_inv {c:MSt→MH→R MV} {bd:MSt→MH→RS} (N:Nat) (Pv:Nat→MSt→MH→Prop) (step:∀ i σ h,i < N→Pv i σ h→∃ h1 σ' h',c σ h=.ok (B true) h1∧bd σ h1=.next σ' h'∧Pv (i + 1) σ' h')
    (fin:∀ σ h,Pv N σ h→c σ h=.ok (B false) h):∀ (fuel i:Nat) (σ:MSt) (h:MH),i≤N→N < fuel + i→Pv i σ h→∃ σ' h',whileL c bd fuel σ h=.next σ' h'∧Pv N σ' h'
  | 0,i,σ,h,h1,h2,_=>by lia
  | fuel + 1,i,σ,h,h1,h2,p=>by
    by_cases hi:i=N
    · subst hi
      exact ⟨σ,h,by simp [whileL,fin σ h p],p⟩
    · obtain ⟨h1,σ',h',e1,e2,p'⟩:=step i σ h (by lia) p
      obtain ⟨σ2,h2,e3,p2⟩:=whileL_inv N Pv step fin fuel (i + 1) σ' h' (by lia) (by lia) p'
      exact ⟨σ2,h2,by simp [whileL,e1,e2,e3],p2⟩
theorem while_do {c:MSt→MH→R MV} {bd:MSt→MH→RS} {σ:MSt} {h:MH} {k:MSt→MH→RS} {Q:RS→Prop} {fuel:Nat} (N:Nat) (Pv:Nat→MSt→MH→Prop) (hf:N < fuel) (h0:Pv 0 σ h)
    (step:∀ i σ h,i < N→Pv i σ h→c σ h=.ok (B true) h∧∀ Q:MSt→MH→Prop,(∀ σ h,Pv (i + 1) σ h→Q σ h)→Nx (bd σ h) Q)
    (fin:∀ σ h,Pv N σ h→c σ h=.ok (B false) h) (go:∀ σ h,Pv N σ h→Q (k σ h)):Q ((whileL c bd fuel σ h).bind k):=by
  obtain ⟨σ',h',e,p⟩:=whileL_inv (c:=c) (bd:=bd) N Pv (fun i σ h hi p=>by
    obtain ⟨e1,st⟩:=step i σ h hi p
    obtain ⟨σ',h',e2,p'⟩:=st _ fun _ _ x=>x
    exact ⟨h,σ',h',e1,e2,p'⟩) fin fuel 0 σ h (Nat.zero_le _) (by lia) h0
  rw [e]
  exact go σ' h' p
noncomputable def tileV (count:Int) (rows:List (List Int)):FV:=.obj "Tile" ["count","rows"] [.int count,rowsV true true rows]
structure GoodT (least most:Int) (rows:List (List Int)):Prop where
  m1:1≤most
  ne:rows≠[]
  len:∃ n:Nat,0 < n∧∀ r∈rows,r.length=n
  sh:∀ r∈rows,∀ v∈r,least≤v∧v≤most
  sz:rows.length≤1000
section
variable {most:Int} {rows r1 r2:List (List Int)} {H W:Nat}
theorem Drawn.cons (d:Drawn most rows H W) (hH:1≤H):∃ r rs,rows=r::rs∧r.length=W∧rs.length + 1=H:=by
  cases rows with
  | nil=>have:=d.len; simp at this; lia
  | cons r rs=>exact ⟨r,rs,rfl,d.wid r (by simp),by have:=d.len; simpa using this⟩
end
theorem GuardOk_one {a:Nat} {xs:List MV} {h:MH} (e:cellL h a=some xs):GuardOk [(a,xs)] h:=fun p hp=>by simp at hp; subst hp; exact e
theorem compL_oneG {α:Type} {bd:MV→MSt→MH→R (Option MV×MSt)} {h:MH} {G:Guard} {e g:α→MV} {caps:MSt} (hg:GuardOk G h):∀ (ys:List α) (acc:List MV) (z:Option MV),acc.length + ys.length≤sizeL →
    (∀ y∈ys,∀ z,∃ z',bd (e y) (z::caps) h=.ok (some (g y),z'::caps) h)→compL G bd (ys.map e) acc (z::caps) h=.ok (acc++ys.map g) h
  | [],acc,z,_,_=>by simp [compL,hg]
  | y::r,acc,z,hl,hb=>by
    obtain ⟨z',e1⟩:=hb y (by simp) z
    simp only [List.length_cons] at hl
    have ih:=compL_oneG (bd:=bd) (e:=e) (g:=g) (caps:=caps) hg r (acc++[g y]) z' (by simp; lia) fun y hy=>hb y (by simp [hy])
    simp only [List.map_cons,compL,hg,true_and,e1,R.bind_ok,ih]
    rw [if_pos (by lia)]
    simp
theorem compL_st {α:Type} {bd:MV→MSt→MH→R (Option MV×MSt)} {e:α→MV} {caps:MSt} (Pv:Nat→List MV→MH→Prop):∀ (ys:List α) (i:Nat) (acc:List MV) (z:Option MV) (h:MH),Pv i acc h→acc.length + ys.length≤sizeL →
    (∀ j y acc z h,ys[j]?=some y→Pv (i + j) acc h→∃ v z' h',bd (e y) (z::caps) h=.ok (some v,z'::caps) h'∧Pv (i + j + 1) (acc++[v]) h')→∃ acc' h',compL [] bd (ys.map e) acc (z::caps) h=.ok acc' h'∧Pv (i + ys.length) acc' h'
  | [],i,acc,z,h,p,_,_=>⟨acc,h,by simp [compL],p⟩
  | y::r,i,acc,z,h,p,hl,hb=>by
    obtain ⟨v,z',h',e1,p1⟩:=hb 0 y acc z h rfl p
    simp only [List.length_cons] at hl
    obtain ⟨acc',h2,e2,p2⟩:=compL_st Pv r (i + 1) (acc++[v]) z' h' p1 (by simp; lia) (fun j y acc z h hj q=>by
      have:=hb (j + 1) y acc z h (by simpa using hj) (by rw [show i + (j + 1)=i + 1 + j by lia]; exact q)
      rw [show i + (j + 1) + 1=i + 1 + j + 1 by lia] at this
      exact this)
    refine ⟨acc',h2,?_,by rw [List.length_cons,show i + (r.length + 1)=i + 1 + r.length by lia]; exact p2⟩
    simp only [List.map_cons,compL,GuardOk_nil,true_and,e1,R.bind_ok]
    rw [if_pos (by lia)]
    exact e2
theorem comp_st {α:Type} {bd:MV→MSt→MH→R (Option MV×MSt)} {e:α→MV} {caps:MSt} {ys:List α} {z:Option MV} {h:MH} {c:R (List MV)} (hc:compL [] bd (ys.map e) [] (z::caps) h=c) (Pv:Nat→List MV→MH→Prop) (h0:Pv 0 [] h) (hl:ys.length≤sizeL)
    (step:∀ j y acc z h,ys[j]?=some y→Pv j acc h→∃ v z' h',bd (e y) (z::caps) h=.ok (some v,z'::caps) h'∧Pv (j + 1) (acc++[v]) h'):∃ acc' h',c=.ok acc' h'∧Pv ys.length acc' h':=by
  obtain ⟨acc',h',e1,p⟩:=compL_st (bd:=bd) (e:=e) (caps:=caps) Pv ys 0 [] z h h0 (by simpa using hl) (fun j y acc z h hj q=>by rw [Nat.zero_add] at q ⊢; exact step j y acc z h hj q)
  rw [hc,Nat.zero_add] at *
  exact ⟨acc',h',e1,p⟩
theorem compL_if2 {α:Type} {bd:MV→MSt→MH→R (Option MV×MSt)} {h:MH} {e g:α→MV} {t:α→Bool} {caps:MSt}:∀ (ys:List α) (acc:List MV) (z w:Option MV),acc.length + ys.length≤sizeL →
    (∀ y∈ys,∀ z w,∃ z' w',bd (e y) (z::w::caps) h=.ok (if t y=true then some (g y) else none,z'::w'::caps) h)→compL [] bd (ys.map e) acc (z::w::caps) h=.ok (acc++(ys.filter t).map g) h
  | [],acc,z,w,_,_=>by simp [compL]
  | y::r,acc,z,w,hl,hb=>by
    obtain ⟨z',w',e'⟩:=hb y (by simp) z w
    simp only [List.length_cons] at hl
    have ih:=fun acc' (hl':acc'.length + r.length≤sizeL)=>compL_if2 (bd:=bd) (h:=h) (e:=e) (g:=g) (t:=t) (caps:=caps) r acc' z' w' hl' (fun y hy z w=>hb y (by simp [hy]) z w)
    cases ht:t y with
    | true =>
      simp [ht] at e'
      simp [compL,e',ih (acc++[g y]) (by simp; lia),ht]
      lia
    | false =>
      simp [ht] at e'
      simp [compL,e',ih acc (by lia),ht]
      lia
noncomputable def lvlRow (lev:Int) (i:Nat) (r:List Int):List (Nat×Nat):=(r.zipIdx.filter fun q=>decide (q.1≤lev)).map fun q=>(i,q.2)
noncomputable def lvlN (lev:Int) (rows:List (List Int)):List (Nat×Nat):=rows.zipIdx.flatMap fun p=>lvlRow lev p.2 p.1
noncomputable abbrev cellN (p:Nat×Nat):FV:=.tup [.int p.1,.int p.2]
theorem lvlRow_len (lev:Int) (i:Nat) (r:List Int):(lvlRow lev i r).length≤r.length:=by
  unfold lvlRow
  rw [List.length_map]
  exact Nat.le_trans (List.length_filter_le _ _) (by simp)
theorem lvlRow_range (lev:Int) (i:Nat) (r:List Int):lvlRow lev i r=((List.range r.length).filter fun j=>decide (r.getD j 0≤lev)).map fun j=>(i,j):=by
  have e:r.zipIdx=(List.range r.length).map fun j=>(r.getD j 0,j):=by
    apply List.ext_getElem?
    intro j
    rw [List.getElem?_zipIdx,List.getElem?_map]
    by_cases hj:j < r.length
    · rw [List.getElem?_range hj,List.getElem?_eq_getElem hj]; simp [List.getD,hj]
    · rw [List.getElem?_eq_none (by lia),List.getElem?_eq_none (by simpa using hj)]; rfl
  unfold lvlRow
  rw [e,List.filter_map,List.map_map]; rfl
structure Inks (most:Int) (inks:List Int):Prop where
  up:inks.Pairwise (· < ·)
  inn:∀ v∈inks,0≤v∧v≤most
  z:0∈inks
  m:most∈inks
  sz:inks.length≤50
namespace Inks
variable {most:Int} {inks:List Int} (K:Inks most inks)
include K
end Inks
end MP
namespace MP
open PySem
noncomputable def rowsO (H W:Nat):List (Nat×Nat):=(List.range H).flatMap fun r=>(List.range W).map fun c=>(r,c)
theorem rowsO_len (H W:Nat):(rowsO H W).length=H * W:=by
  unfold rowsO
  rw [List.length_flatMap]
  simp only [List.length_map,List.length_range]
  induction H with
  | zero=>simp
  | succ H ih=>rw [List.range_succ,List.map_append,List.sum_append,ih,Nat.add_mul]; simp
noncomputable def rndN (n a:Nat):Nat:=if n - a < a then n - a else a
noncomputable def absN (a b:Nat):Nat:=(a - b) + (b - a)
noncomputable def dN (H W:Nat) (p q:Nat×Nat):Nat:=rndN H (absN p.1 q.1) * rndN H (absN p.1 q.1) + rndN W (absN p.2 q.2) * rndN W (absN p.2 q.2)
theorem sub_mod {H a b:Nat} (ha:a < H) (hb:b < H):((a:Int) - b) % H=if b≤a then ((a - b:Nat):Int) else ((H + a - b:Nat):Int):=by
  split
  next h=>rw [Int.emod_eq_of_lt (by lia) (by lia)]; lia
  next h =>
    rw [← Int.add_emod_right,Int.emod_eq_of_lt (by lia) (by lia)]; lia
theorem far_mod {H a b:Nat} (ha:a < H) (hb:b < H):(if (H:Int) - ((a:Int) - b) % H < ((a:Int) - b) % H then (H:Int) - ((a:Int) - b) % H else ((a:Int) - b) % H)=(rndN H (absN a b):Nat):=by
  rw [sub_mod ha hb]
  unfold rndN absN
  split
  · split <;> split <;> lia
  · split <;> split <;> lia
theorem abs_N (a b:Nat):(if ((a:Int) - b) < 0 then -((a:Int) - b) else (a:Int) - b)=(absN a b:Nat):=by
  unfold absN; split <;> lia
theorem rnd_I {H a b:Nat} (ha:a < H) (hb:b < H):(if (H:Int) - (absN a b:Nat) < (absN a b:Nat) then (H:Int) - (absN a b:Nat) else ((absN a b:Nat):Int))=(rndN H (absN a b):Nat):=by
  unfold rndN absN
  split <;> split <;> lia
noncomputable def maxN:Nat→List Nat→Nat
  | m,[]=>m
  | m,x::r=>maxN (if x > m then x else m) r
noncomputable def idxN (k:Nat):List Nat→Option Nat
  | []=>none
  | x::r=>if x=k then some 0 else (idxN k r).map (· + 1)
theorem maxI_N:∀ (r:List Nat) (m:Nat),maxI (m:Int) (r.map fun x:Nat=>(x:Int))=(maxN m r:Nat)
  | [],m=>rfl
  | x::r,m=>by
    simp only [List.map_cons,maxI,maxN]
    by_cases h:x > m
    · rw [if_pos h,if_pos (by lia)]; exact maxI_N r x
    · rw [if_neg h,if_neg (by lia)]; exact maxI_N r m
theorem idxI_N (k:Nat):∀ r:List Nat,L3.idxI (k:Int) (r.map fun x:Nat=>(x:Int))=idxN k r
  | []=>rfl
  | x::r=>by
    simp only [List.map_cons,L3.idxI,idxN,idxI_N k r]
    by_cases h:x=k
    · rw [if_pos h,if_pos (by lia)]
    · rw [if_neg h,if_neg (by lia)]
theorem maxN_mem:∀ (r:List Nat) (m:Nat),maxN m r∈m::r
  | [],m=>by simp [maxN]
  | x::r,m=>by
    unfold maxN
    by_cases h:x > m
    · rw [if_pos h]
      exact List.mem_cons_of_mem _ (maxN_mem r x)
    · rw [if_neg h]
      rcases List.mem_cons.mp (maxN_mem r m) with e | e
      · rw [e]; exact List.mem_cons_self
      · exact List.mem_cons_of_mem _ (List.mem_cons_of_mem _ e)
theorem idxN_mem {k:Nat}:∀ {r:List Nat},k∈r→∃ j,idxN k r=some j∧j < r.length
  | [],h=>by simp at h
  | x::r,h=>by
    unfold idxN
    by_cases e:x=k
    · exact ⟨0,by rw [if_pos e],by simp⟩
    · rcases List.mem_cons.mp h with rfl | h
      · exact absurd rfl e
      · obtain ⟨j,e1,e2⟩:=idxN_mem h
        exact ⟨j + 1,by rw [if_neg e,e1]; rfl,by simpa using e2⟩
noncomputable def spot:List Nat→Nat
  | []=>0
  | x::r=>(idxN (maxN x r) (x::r)).getD 0
theorem spot_idx (x:Nat) (r:List Nat):idxN (maxN x r) (x::r)=some (spot (x::r))∧spot (x::r) < (x::r).length:=by
  obtain ⟨j,e1,e2⟩:=idxN_mem (maxN_mem r x)
  show idxN (maxN x r) (x::r)=some ((idxN (maxN x r) (x::r)).getD 0)∧(idxN (maxN x r) (x::r)).getD 0 < _
  rw [e1]
  exact ⟨rfl,e2⟩
noncomputable def spStep (H W:Nat) (cells:List (Nat×Nat)) (st:List Nat×List Nat) (k:Nat):List Nat×List Nat :=
  (st.1.set (spot st.2) k,List.zipWith (fun a b=>if b < a then b else a) st.2 (cells.map fun c=>dN H W c (cells.getD (spot st.2) (0,0))))
noncomputable def spGo (H W:Nat) (cells:List (Nat×Nat)):Nat→List Nat×List Nat
  | 0=>(List.replicate cells.length 0,List.replicate cells.length (H * H + W * W))
  | k + 1=>spStep H W cells (spGo H W cells k) (k + 1)
theorem spGo_len (H W:Nat) (cells:List (Nat×Nat)):∀ k,(spGo H W cells k).1.length=cells.length∧(spGo H W cells k).2.length=cells.length
  | 0=>by simp [spGo]
  | k + 1=>by
    obtain ⟨a,b⟩:=spGo_len H W cells k
    simp [spGo,spStep,a,b]
noncomputable def spRows (H W:Nat):List (List Nat):=(List.range H).map fun i=>((spGo H W (rowsO H W) (H * W)).1.drop (i * W)).take W
noncomputable def lsStep (H W:Nat) (st:List (Nat×Nat)×List Nat×List ((Nat×Nat)×Nat)):List (Nat×Nat)×List Nat×List ((Nat×Nat)×Nat) :=
  let s:=spot st.2.1
  let c:=st.1.getD s (0,0)
  let l:=st.1.take s++st.1.drop (s + 1)
  (l,List.zipWith (fun a b=>if b < a then b else a) (st.2.1.take s++st.2.1.drop (s + 1)) (l.map fun q=>dN H W c q),st.2.2++[(c,st.2.1.getD s 0)])
noncomputable def lsGo (H W:Nat):Nat→List (Nat×Nat)×List Nat×List ((Nat×Nat)×Nat)
  | 0=>(rowsO H W,List.replicate (H * W) (H * H + W * W),[])
  | k + 1=>lsStep H W (lsGo H W k)
noncomputable def lessO (b:Option Nat) (d:Nat):Option Nat:=match b with
  | none=>some d
  | some x=>if d < x then some d else some x
noncomputable def dueP (H W:Nat) (cells:List (Nat×Nat)):Option Nat:=(List.range cells.length).foldl (fun b k=>(cells.take k).foldl (fun b q=>lessO b (dN H W (cells.getD k (0,0)) q)) b) none
noncomputable def spreadOk (H W:Nat):Bool :=
  let rows:=(spRows H W).map fun r=>r.map fun x:Nat=>(x:Int)
  let ls:=(lsGo H W (H * W)).2.2
  (List.range (H * W + 1)).all fun l=>dueP H W (lvlN l rows) == (if l < 2 then none else some (ls.getD (l - 1) ((0,0),0)).2)
section
variable (n:Nat) (h:MH)
theorem run_next (ns:List Int) (k:Int) (hk:0≤k) (hk2:k < 1000000):run prog (n + 1) "_law_next" [.f (.scr ns),.ref 0] (atC k::h)=.ok (I (draw ns (k + 1))) (atC (k + 1)::h):=by
  have m1:mulOk (k + 1) (k + 1):=mul_small (by lia)
  have m2:∀ x,mulOk x 7919:=fun x=>mul_small (by decide)
  have m3:∀ x,mulOk x 48271:=fun x=>mul_small (by decide)
  have m4:∀ x:Int,mulOk (x % 2147483647) (x % 2147483647):=fun x=>mul_small (by have:=Int.emod_nonneg x (show (2147483647:Int)≠0 by decide); have:=Int.emod_lt_of_pos x (show (0:Int) < 2147483647 by decide); lia)
  simp only [run_succ,p_d__law_next,opt_some,d__law_next]
  by_cases hn:ns=[]
  · subst hn
    simp [bin_mul,bin_mod,m1,m2,m3,m4,ixM,draw,cellAt]
  · have hl:0 < ns.length:=List.length_pos_iff.mpr hn
    have e1:atM (ns.map fun i=>MV.f (.int i)) ((k + 1) % ns.length)=some (I (cellAt ns (k + 1))):=by
      have h0:0≤(k + 1) % (ns.length:Int):=Int.emod_nonneg _ (by lia)
      have h1:(k + 1) % (ns.length:Int) < ns.length:=Int.emod_lt_of_pos _ (by lia)
      rw [atM_pos _ _ h0,List.getElem?_map,List.getElem?_eq_getElem (by lia)]
      simp [cellAt,hn,List.getD,List.getElem?_eq_getElem (show ((k + 1) % (ns.length:Int)).toNat < ns.length by lia)]
    simp [bin_mul,bin_mod,m1,m2,m3,m4,ixM,draw,hl,e1]
end
theorem run_same (n:Nat) (h:MH):∀ (d:Nat) (x:FV),isQ d x=true→run prog (n + d) "_law_same" [.f x,.f x] h=.ok (B true) h
  | 0,x,e=>by cases x <;> simp [isQ] at e
  | d + 1,x,e=>by
    rw [show n + (d + 1)=(n + d) + 1 from rfl,r_d__law_same]
    simp only [d__law_same]
    cases x with
    | non=>simp [isQ] at e
    | bl b=>simp [isQ] at e
    | int i=>simp
    | str s=>simp [isQ] at e; simp [eqF_str _ _ e e]
    | tup xs =>
      simp [isQ] at e
      simp [zip_self,Function.comp_def,MP.stM]
      rw [compL_two (e:=fun x=>MV.f (.tup [x,x])) (g:=fun _=>B true) (caps:=[]) xs [] none none (by simpa using e.1) (fun y hy z w=>⟨some (.f y),some (.f y),by simp [compB,run_same n h d y (e.2 y hy)]⟩)]
      simp [Function.comp_def]
    | lst xs =>
      simp [isQ] at e
      simp [zip_self,Function.comp_def,MP.stM]
      rw [compL_two (e:=fun x=>MV.f (.tup [x,x])) (g:=fun _=>B true) (caps:=[]) xs [] none none (by simpa using e.1) (fun y hy z w=>⟨some (.f y),some (.f y),by simp [compB,run_same n h d y (e.2 y hy)]⟩)]
      simp [Function.comp_def]
    | obj c ns vs=>simp [isQ] at e
    | scr ns=>simp [isQ] at e
    | tab ns=>simp [isQ] at e
    | msk ns=>simp [isQ] at e
section
variable (n:Nat) (h:MH)
theorem run_own_rows (b1 b2:Bool) (rows:List (List Int)) (hl:rows.length≤sizeL):run prog (n + 1) "own_rows" [.f (rowsV b1 b2 rows)] h=.ok (.f (rowsV true true rows)) h:=by
  simp [run_succ,d_own_rows,itV_seq,rowsV,stM]
  rw [compL_one (e:=MV.f∘rowV b2) (g:=MV.f∘rowV true) rows [] none (by simpa using hl) (fun y _ z=>⟨_,by simp [compB,rowV]; exact ⟨rfl,rfl⟩⟩)]
  simp [rowsV,rowV,sq]
theorem run_faultT (least most:Int) (rows:List (List Int)) (g:GoodT least most rows):run prog (n + 1) "fault_of" [.f (rowsV true true rows),I least,I most] h=.ok (.f .non) h:=by
  obtain ⟨m1,ne,⟨w,w0,hw⟩,sh,sz⟩:=g
  cases rows with
  | nil=>exact absurd rfl ne
  | cons r0 rs =>
    have hr0:=hw r0 (by simp)
    have e1:¬ most < 1:=by lia
    have e2:r0≠[]:=by intro e; subst e; simp at hr0; lia
    have e7:seqOf h (.f (rowV true r0))=some (r0.map (MV.f∘FV.int)):=by simp [rowV]
    simp [run_succ,d_fault_of,e1,rowsV,e7,e2]
    rw [← Function.comp_apply (f:=MV.f) (g:=rowV true),← List.map_cons (f:=MV.f∘rowV true),forL_fold (e:=MV.f∘rowV true) (st:=fun z=>[some (.f (sq true (rowV true r0::rs.map (rowV true)))),some (I least),some (I most),z]) (hp:=fun _=>h) (f:=fun _ r=>some (.f (rowV true r))) _ none]
    · simp
    · intro r hr z
      have e3:=hw r hr
      have e4:r≠[]:=by intro e; subst e; simp at e3; lia
      have e5:¬ minL r < least:=by have:=sh r hr _ (minL_mem e4); lia
      have e6:¬ most < maxL r:=by have:=sh r hr _ (maxL_mem e4); lia
      have q1:=bltV_min true h (.f (rowV true r)) r (by simp [rowV]) e4
      have q2:=bltV_max true h (.f (rowV true r)) r (by simp [rowV]) e4
      have q3:seqOf h (.f (rowV true r))=some (r.map (MV.f∘FV.int)):=by simp [rowV]
      simp [loopB,q1,q2,q3,e5,e6,e7,e3,hr0]
theorem run_Tile_init (count:Int) (b1 b2:Bool) (rows:List (List Int)) (g:GoodT 1 count rows):run prog (n + 2) "Tile.__init__" [.ref h.length,I count,.f (rowsV b1 b2 rows)] (h++[.obj "Tile" []]) =
    .ok (.f .non) (h++[.obj "Tile" [("count",I count),("rows",.f (rowsV true true rows))]]):=by
  have hz:rows.length≤sizeL:=Nat.le_trans g.sz (by decide)
  have t:=TrOk.obj h "Tile" [("count",.int count),("rows",rowsV true true rows)] []
  simp only [List.map_cons,List.map_nil] at t
  simp [run_succ n.succ,d_Tile___init__,run_own_rows _ _ b1 b2 rows hz,run_faultT _ _ 1 count rows g,leave,t]
  exact List.take_of_length_le (by simp)
theorem make_Tile (count:Int) (b1 b2:Bool) (rows:List (List Int)) (g:GoodT 1 count rows):makeV prog (run prog (n + 2)) true "Tile" [I count,.f (rowsV b1 b2 rows)] h=.ok (.f (tileV count rows)) h:=by
  simp [makeV,run_Tile_init n h count b1 b2 rows g,TrOk.app,tileV,allF]
end
section
variable (n:Nat) (h:MH)
theorem run_level_of (c:Int) (rows:List (List Int)) (lev:Int) (hr:rows.length≤1000) (hw:∀ r∈rows,r.length≤1000) :
    run prog (n + 1) "level_of" [.f (tileV c rows),I lev] h=.ok (.ref h.length) (h++[.lst ((lvlN lev rows).map (MV.f∘cellN))]):=by
  refine Ret.eq fun Q hQ=>?_
  have q:∀ hh,seqOf hh (.f (rowsV true true rows))=some (rows.map (MV.f∘rowV true)):=fun hh=>by simp [rowsV]
  have gq:∀ hh,guardOf hh (.f (rowsV true true rows))=[]:=fun hh=>rfl
  have f1:∀ hh,fldV prog.fok "rows" (.f (tileV c rows)) hh=some (.f (rowsV true true rows)):=fun hh=>by simp [tileV]
  rw [r_d_level_of]; simp only [d_level_of]
  simp [f1,q,gq,enum_map]
  refine for_list (Q:=fun r=>Ret (leaveS _ r) _) (e:=fun p:List Int×Nat=>MV.f (.tup [.int p.2,rowV true p.1])) rows.zipIdx (fun i σ hh=>∃ (xs:List (Nat×Nat)) (z3 z4:Option MV),xs=(rows.zipIdx.take i).flatMap (fun p=>lvlRow lev p.2 p.1)∧xs.length≤i * 1000∧hh=h++[.lst (xs.map (MV.f∘cellN))]∧σ=[some (.f (tileV c rows)),some (I lev),some (.ref h.length),z3,z4]) ?_ ?_ ?_
  · exact ⟨[],none,none,rfl,by simp,by simp,rfl⟩
  · rintro i ⟨r,i'⟩ σ hh hi ⟨xs,z3,z4,hx,hx2,rfl,rfl⟩ Q hQ
    have hi0:=hi
    rw [List.getElem?_zipIdx] at hi
    obtain ⟨r',hr',e⟩:=Option.map_eq_some_iff.mp hi
    simp only [Prod.mk.injEq,Nat.zero_add] at e
    obtain ⟨rfl,rfl⟩:=e
    have hil:=(List.getElem?_eq_some_iff.mp hr').1
    have hrm:r'∈rows:=List.mem_of_getElem? hr'
    have hrl:=hw r' hrm
    have q2:∀ hh,seqOf hh (.f (rowV true r'))=some (r'.map (MV.f∘FV.int)):=fun hh=>by simp [rowV]
    have gq2:∀ hh,guardOf hh (.f (rowV true r'))=[]:=fun hh=>rfl
    have cl:=cellL_app h [] (xs.map (MV.f∘cellN))
    simp [loopB,q2,gq2,enum_map,MP.stM,cl]
    rw [compL_if2 (e:=fun p:Int×Nat=>MV.f (.tup [.int p.2,.int p.1])) (g:=fun p:Int×Nat=>MV.f (.tup [.int i,.int p.2])) (t:=fun p=>decide (p.1≤lev)) r'.zipIdx [] none none (by simp [sizeL_eq]; lia) (fun p _ z w=>⟨some (I p.2),some (I p.1),by by_cases cx:p.1≤lev <;> simp [compB,cx]⟩)]
    have zl:=lvlRow_len lev i r'
    have el:(r'.zipIdx.filter fun p=>decide (p.1≤lev)).map (fun p:Int×Nat=>MV.f (.tup [.int i,.int p.2]))=(lvlRow lev i r').map (MV.f∘cellN):=by simp [lvlRow,Function.comp_def]
    rw [List.nil_append,el]
    have hs:xs.length + (lvlRow lev i r').length≤sizeL:=by rw [sizeL_eq]; lia
    have cs:=setCell_app h [] (xs.map (MV.f∘cellN)) ((xs++lvlRow lev i r').map (MV.f∘cellN))
    rw [List.map_append] at cs
    simp [cl,hs,cs]
    refine hQ _ _ ⟨xs++lvlRow lev i r',_,_,?_,?_,by simp,rfl⟩
    · rw [List.take_add_one,hi0,Option.toList_some,List.flatMap_append,hx]; simp
    · simp; lia
  · rintro σ hh ⟨xs,z3,z4,hx,hx2,rfl,rfl⟩
    simp only [List.take_length] at hx
    have cl:=cellL_app h [] (xs.map (MV.f∘cellN))
    have tr:=TrOk.app h [.lst (xs.map (MV.f∘cellN))]
    simp [leave,cl,tr]
    exact hQ _ _ ⟨rfl,by rw [hx]; rfl⟩
end
section
variable (n:Nat) (h:MH)
theorem run_threshold (c:Int) (rows:List (List Int)) (H W:Nat) (hH:1≤H) (hW:1≤W) (hl:rows.length=H) (hw:∀ r∈rows,r.length=W) (a b:Int):run prog (n + 1) "threshold_at" [.f (tileV c rows),I a,I b] h=.ok (I ((rows.getD (a % H).toNat []).getD (b % W).toNat 0)) h:=by
  have p1:fldV prog.fok "rows" (.f (tileV c rows)) h=some (.f (rowsV true true rows)):=by simp [tileV]
  have q:seqOf h (.f (rowsV true true rows))=some (rows.map (MV.f∘rowV true)):=by simp [rowsV]
  have ma:=mod_lt a H (by lia)
  have mb:=mod_lt b W (by lia)
  have hi:(a % H).toNat < rows.length:=by lia
  have hr:=hw _ (List.getElem_mem hi)
  have er:rows.getD (a % H).toNat []=rows[(a % H).toNat]:=by simp [List.getD,hi]
  rw [er]
  have a1:atM (rows.map (MV.f∘rowV true)) (a % H)=some (.f (rowV true rows[(a % H).toNat])):=by rw [atM_pos _ _ ma.1,List.getElem?_map,List.getElem?_eq_getElem hi]; rfl
  generalize rows[(a % H).toNat]=r at *
  have q2:seqOf h (.f (rowV true r))=some (r.map (MV.f∘FV.int)):=by simp [rowV]
  have hj:(b % W).toNat < r.length:=by lia
  have a2:atM (r.map (MV.f∘FV.int)) (b % W)=some (I (r.getD (b % W).toNat 0)):=by rw [atM_pos _ _ mb.1,List.getElem?_map,List.getElem?_eq_getElem hj]; simp [List.getD,hj]
  have b1:∀ hh,binV true .mod (I a) (I H) hh=.ok (I (a % H)) hh:=fun hh=>bin_mod _ _ _ (by lia)
  have b2:∀ hh,binV true .mod (I b) (I W) hh=.ok (I (b % W)) hh:=fun hh=>bin_mod _ _ _ (by lia)
  rw [r_d_threshold_at]
  simp only [d_threshold_at]
  simp [p1,q,hl,b1,a1,q2,hr,b2,a2]
end
section
variable (n:Nat) (h:MH)
theorem run_great (ns:List Int) (k room:Int) (hk:0≤k) (hk2:k < 1000000) (hr:0 < room):∃ v:Int,0≤v∧(v < room∨v < 10000000000000000000000000)∧run prog (n + 2) "_law_great" [.f (.scr ns),.ref 0,I room] (atC k::h)=.ok (I v) (atC (k + 1)::h):=by
  have N:=run_next n h ns k hk hk2
  have hd:=draw_nn ns (k + 1)
  generalize draw ns (k + 1)=x at N hd
  have hp:∀ hh,binV true .pow (I 10) (I 25) hh=.ok (I 10000000000000000000000000) hh:=fun hh=>bin_pow true 10 25 (by decide)
  have hp2:∀ hh,binV true .pow (I 10) (I 14) hh=.ok (I 100000000000000) hh:=fun hh=>bin_pow true 10 14 (by decide)
  have m5:divOk x 5:=⟨by decide,.inl (by decide)⟩
  have mu:mulOk x 100000000000000:=.inl (by lia)
  rw [r_d__law_great]
  simp only [d__law_great]
  by_cases c:0 < x % 5
  · have:=mod_lt (x / 5) room hr
    refine ⟨x / 5 % room,this.1,.inl this.2,?_⟩
    by_cases hn:ns=[]
    · subst hn
      simp [N,bin_mod,bin_fdiv,m5,c,hr]
    · have hl:0 < ns.length:=List.length_pos_iff.mpr hn
      simp [N,bin_mod,bin_fdiv,m5,c,hr,hl,cellAt_at ns hn (k + 1)]
  · by_cases hn:ns=[]
    · subst hn
      have:=mod_lt (0 % 10000000000000000000000000 + x * 100000000000000) 10000000000000000000000000 (by decide)
      refine ⟨_,this.1,.inr this.2,?_⟩
      simp [N,bin_mod,bin_mul,mu,c,hp,hp2]
    · have hl:0 < ns.length:=List.length_pos_iff.mpr hn
      have:=mod_lt (cellAt ns (k + 1) % 10000000000000000000000000 + x * 100000000000000) 10000000000000000000000000 (by decide)
      refine ⟨_,this.1,.inr this.2,?_⟩
      simp [N,bin_mod,bin_mul,mu,c,hp,hp2,hl,cellAt_at ns hn (k + 1)]
end
section
variable (n:Nat) (h:MH)
theorem run_drawn_size (ns:List Int) (k:Int) (hk:0≤k) (hk2:k < 1000000):∃ a b:Nat,1≤a∧1≤b∧a≤60∧b≤60∧a * b≤60∧run prog (n + 2) "_law_drawn_size" [.f (.scr ns),.ref 0] (atC k::h)=.ok (.f (.tup [.int a,.int b])) (atC (k + 1)::h):=by
  have N:=run_next n h ns k hk hk2
  have hd:=draw_nn ns (k + 1)
  generalize draw ns (k + 1)=x at N hd
  have h5:=mod_lt x 5 (by decide)
  have d5:∀ hh,binV true .fdiv (I x) (I 5) hh=.ok (I (x / 5)) hh:=fun hh=>bin_fdiv _ _ _ ⟨by decide,.inl (by decide)⟩
  have d30:∀ hh,binV true .fdiv (I x) (I 30) hh=.ok (I (x / 30)) hh:=fun hh=>bin_fdiv _ _ _ ⟨by decide,.inl (by decide)⟩
  have d45:∀ hh,binV true .fdiv (I x) (I 45) hh=.ok (I (x / 45)) hh:=fun hh=>bin_fdiv _ _ _ ⟨by decide,.inl (by decide)⟩
  have d15:∀ hh,binV true .fdiv (I x) (I 15) hh=.ok (I (x / 15)) hh:=fun hh=>bin_fdiv _ _ _ ⟨by decide,.inl (by decide)⟩
  obtain ⟨a,b,a1,b1,a60,b60,ab,e⟩:∃ a b:Nat,1≤a∧1≤b∧a≤60∧b≤60∧a * b≤60∧atM [MV.f (.tup [.int (1 + x / 5 % 6),.int (1 + x / 30 % 7)]),.f (.tup [.int 1,.int (1 + x / 5 % 60)]),.f (.tup [.int (1 + x / 5 % 60),.int 1]),.f (.tup [.int (1 + x / 5 % 9),.int (1 + x / 45 % 4)]),.f (.tup [.int (2 + x / 5 % 3),.int (2 + x / 15 % 10)])] (x % 5)=some (.f (.tup [.int a,.int b])):=by
    have key:∀ u v:Int,1≤u→1≤v→u≤60→v≤60→u * v≤60→∃ a b:Nat,1≤a∧1≤b∧a≤60∧b≤60∧a * b≤60∧u=a∧v=b:=fun u v h1 h2 h3 h4 h5=>by
      obtain ⟨a,rfl⟩:=Int.eq_ofNat_of_zero_le (show 0≤u by lia)
      obtain ⟨b,rfl⟩:=Int.eq_ofNat_of_zero_le (show 0≤v by lia)
      exact ⟨a,b,by lia,by lia,by lia,by lia,by exact_mod_cast h5,rfl,rfl⟩
    have mulb:∀ u v p q:Int,0≤u→0≤v→u≤p→v≤q→u * v≤p * q:=fun u v p q h0 h1 h2 h3=>Int.mul_le_mul h2 h3 h1 (by lia)
    have:x % 5=0∨x % 5=1∨x % 5=2∨x % 5=3∨x % 5=4:=by lia
    rcases this with e | e | e | e | e <;> rw [e]
    · obtain ⟨a,b,c1,c2,c3,c4,c5,e1,e2⟩:=key (1 + x / 5 % 6) (1 + x / 30 % 7) (by lia) (by lia) (by lia) (by lia) (Int.le_trans (mulb _ _ 6 7 (by lia) (by lia) (by lia) (by lia)) (by decide))
      exact ⟨a,b,c1,c2,c3,c4,c5,by rw [e1,e2]; rfl⟩
    · obtain ⟨a,b,c1,c2,c3,c4,c5,e1,e2⟩:=key 1 (1 + x / 5 % 60) (by lia) (by lia) (by lia) (by lia) (by lia)
      exact ⟨a,b,c1,c2,c3,c4,c5,by rw [← e1,← e2]; rfl⟩
    · obtain ⟨a,b,c1,c2,c3,c4,c5,e1,e2⟩:=key (1 + x / 5 % 60) 1 (by lia) (by lia) (by lia) (by lia) (by lia)
      exact ⟨a,b,c1,c2,c3,c4,c5,by rw [← e1,← e2]; rfl⟩
    · obtain ⟨a,b,c1,c2,c3,c4,c5,e1,e2⟩:=key (1 + x / 5 % 9) (1 + x / 45 % 4) (by lia) (by lia) (by lia) (by lia) (Int.le_trans (mulb _ _ 9 4 (by lia) (by lia) (by lia) (by lia)) (by decide))
      exact ⟨a,b,c1,c2,c3,c4,c5,by rw [e1,e2]; rfl⟩
    · obtain ⟨a,b,c1,c2,c3,c4,c5,e1,e2⟩:=key (2 + x / 5 % 3) (2 + x / 15 % 10) (by lia) (by lia) (by lia) (by lia) (Int.le_trans (mulb _ _ 4 11 (by lia) (by lia) (by lia) (by lia)) (by decide))
      exact ⟨a,b,c1,c2,c3,c4,c5,by rw [e1,e2]; rfl⟩
  refine ⟨a,b,a1,b1,a60,b60,ab,?_⟩
  rw [r_d__law_drawn_size]
  simp only [d__law_drawn_size]
  simp [N,d5,d30,d45,d15,bin_mod,allF,bin_cat1,e]
theorem run_drawn_count (ns:List Int) (k:Int) (hk:0≤k) (hk2:k + 1 < 1000000):∃ c:Int,1≤c∧c≤10000000000000000000000000∧run prog (n + 3) "_law_drawn_count" [.f (.scr ns),.ref 0] (atC k::h)=.ok (I c) (atC (k + 1 + 1)::h):=by
  have N:=run_next (n + 1) h ns k hk (by lia)
  obtain ⟨g,g0,g1,G⟩:=run_great n h ns (k + 1) 1000 (by lia) (by lia) (by decide)
  have hd:=draw_nn ns (k + 1)
  generalize draw ns (k + 1)=x at N hd
  have d4:∀ hh,binV true .fdiv (I x) (I 4) hh=.ok (I (x / 4)) hh:=fun hh=>bin_fdiv _ _ _ ⟨by decide,.inl (by decide)⟩
  have h4:=mod_lt x 4 (by decide)
  obtain ⟨c,c1,c2,e⟩:∃ c:Int,1≤c∧c≤10000000000000000000000000∧atM [I 1,I (1 + x / 4 % 9),I 16,I (1 + g)] (x % 4)=some (I c):=by
    obtain ⟨w,hw,e⟩:=atM_mem [I 1,I (1 + x / 4 % 9),I 16,I (1 + g)] _ h4.1 (by simpa using h4.2)
    simp only [List.mem_cons,List.not_mem_nil,or_false] at hw
    rcases hw with rfl | rfl | rfl | rfl
    all_goals exact ⟨_,by lia,by lia,e⟩
  refine ⟨c,c1,c2,?_⟩
  rw [r_d__law_drawn_count]
  simp only [d__law_drawn_count]
  simp [N,d4,bin_mod,G,allF,e]
theorem run_tile_rows (ns:List Int) (k count:Int) (H W:Nat) (hk:0≤k) (hk2:k + (H * W:Nat) < 1000000) (hc:1≤count) (hH:H≤1000) (hW:W≤1000) :
    Ret (run prog (n + 3) "_law_tile_rows" [.f (.scr ns),.ref 0,I count,I H,I W] (atC k::h)) fun v h'=>∃ rows,rows.length=H∧(∀ r∈rows,r.length=W∧∀ v∈r,1≤v∧v≤count)∧v=.f (rowsV false false rows)∧h'=atC (k + (H * W:Nat))::h:=by
  refine Ret.of fun Q hQ=>?_
  rw [r_d__law_tile_rows]
  simp only [d__law_tile_rows]
  simp [itV_range _ (H:Int) (by lia)]
  refine for_range (Q:=fun r=>Ret (leaveS _ r) _) H (fun i σ hh=>∃ (kk:Int) (rows:List (List Int)) (g:MH) (z6:Option MV),kk=k + (i * W:Nat)∧rows.length=i∧(∀ r∈rows,r.length=W∧∀ v∈r,1≤v∧v≤count)∧Own h g ((rows.map (rowV false)).map .f)∧hh=atC kk::g ∧
    σ=[some (.f (.scr ns)),some (.ref 0),some (I count),some (I H),some (I W),some (.ref (h.length + 1)),z6]) ?_ ?_ ?_
  · exact ⟨k,[],_,_,by simp,rfl,by simp,Own.new h,rfl,rfl⟩
  · rintro i σ hh hil ⟨kk,rows,g,z6,hkk,hl,hr,o,rfl,rfl⟩ Q hQ
    have hij:(i + 1) * W≤H * W:=Nat.mul_le_mul_right _ hil
    rw [Nat.add_mul] at hij
    have c0:=o.cell (atC kk)
    simp only [List.map_map] at c0
    simp [loopB,c0,itV_range _ (W:Int) (by lia),MP.stM]
    generalize hc:compL _ _ _ _ _ _=c
    obtain ⟨acc',h',rfl,r,er,r1,r2,rfl⟩:=comp_st hc (fun j acc hh=>∃ r:List Int,acc=(r.map FV.int).map .f∧r.length=j∧(∀ v∈r,1≤v∧v≤count)∧hh=atC (kk + j)::g) ⟨[],rfl,rfl,by simp,by simp⟩ (by simp [sizeL_eq]; lia) (by
      rintro j y acc z hh hj ⟨r,rfl,rl,rv,rfl⟩
      have hjW:j < W:=by have:=(List.getElem?_eq_some_iff.mp hj).1; simpa using this
      obtain ⟨v,v0,_,G⟩:=run_great n g ns (kk + j) count (by lia) (by lia) (by lia)
      have bm:∀ hh,binV true .mod (I v) (I count) hh=.ok (I (v % count)) hh:=fun hh=>bin_mod _ _ _ (by lia)
      have hv:=mod_lt v count (by lia)
      refine ⟨I (1 + v % count),some (I y),atC (kk + j + 1)::g,by simp [compB,G,bm],r++[1 + v % count],by simp,by simp [rl],fun w hw=>?_,by simp; lia⟩
      rcases List.mem_append.mp hw with hw | hw
      · exact rv w hw
      · simp at hw; subst hw; lia)
    have c1:=o.cell (atC (kk + W))
    have hz:rows.length < sizeL:=by rw [sizeL_eq]; lia
    obtain ⟨g',eg,o'⟩:=o.set (atC (kk + W)) ((rows.map (rowV false)).map .f++[.f (rowV false r)])
    simp only [List.length_range] at r1
    simp only [List.map_map] at c1 eg
    subst er
    have er2:MV.f (.lst (r.map FV.int))=.f (rowV false r):=rfl
    simp [er2,c1,hz,eg]
    exact hQ _ _ ⟨kk + W,rows++[r],g',_,by rw [hkk,Nat.add_mul]; lia,by simp [hl],fun x hx=>by
      rcases List.mem_append.mp hx with hx | hx
      · exact hr x hx
      · simp at hx; subst hx; exact ⟨r1,r2⟩,by simpa using o',rfl,rfl⟩
  · rintro σ hh ⟨kk,rows,g,z6,hkk,hl,hr,o,rfl,rfl⟩
    obtain ⟨t',e⟩:=o.frz (atC kk)
    simp [e]
    exact hQ _ _ ⟨rows,hl,hr,rfl,by rw [hkk]⟩
end
end MP
end
section
set_option maxHeartbeats 2000000
namespace MP
open PySem
theorem lmV_extendA (h:MH) (a:Nat) (xs:List FV):lmV "extend" (.ref a) [.f (.lst xs)] h=opt (cellL h a) fun ys=>if ys.length + xs.length≤sizeL then .ok (.f .non) (setCell h a (ys++xs.map .f)) else .stuck:=by
  have:lmV "extend" (.ref a) [.f (.lst xs)] h=opt (cellL h a) fun ys=>opt (listOf h (.f (.lst xs))) fun zs=>if ys.length + zs.length≤sizeL then .ok (.f .non) (setCell h a (ys++zs)) else .stuck:=rfl
  rw [this]
  cases cellL h a with
  | none=>rfl
  | some ys=>simp
theorem rndN_le (n a:Nat):rndN n a≤n:=by unfold rndN; split <;> lia
theorem mul_N (x:Nat) (hx:x≤1000) (hh:MH):binV true .mul (I (x:Nat)) (I (x:Nat)) hh=.ok (I ((x:Int) * x)) hh:=bin_mul _ _ _ (by unfold mulOk; lia)
section
variable (n:Nat) (h:MH)
theorem run_round {H a b:Nat} (ha:a < H) (hb:b < H):run prog (n + 1) "round_edge" [I (absN a b:Nat),I H] h=.ok (I (rndN H (absN a b):Nat)) h:=by
  have e:=rnd_I ha hb
  rw [r_d_round_edge]; simp only [d_round_edge]
  simp [bltV_min2,e]
theorem run_distance {H W:Nat} (p q:Nat×Nat) (p1:p.1 < H) (p2:p.2 < W) (q1:q.1 < H) (q2:q.2 < W) (hH:H≤1000) (hW:W≤1000):run prog (n + 2) "distance" [.f (cellN p),.f (cellN q),I H,I W] h=.ok (I (dN H W p q:Nat)) h:=by
  have e1:=fun hh=>run_round n hh p1 q1
  have e2:=fun hh=>run_round n hh p2 q2
  have a1:=abs_N p.1 q.1
  have a2:=abs_N p.2 q.2
  have m1:=mul_N (rndN H (absN p.1 q.1)) (Nat.le_trans (rndN_le _ _) hH)
  have m2:=mul_N (rndN W (absN p.2 q.2)) (Nat.le_trans (rndN_le _ _) hW)
  rw [r_d_distance]; simp only [d_distance]
  simp [cellN,bltV_abs,a1,a2,e1,e2,dN,m1,m2]
theorem run_far {H W:Nat} (p q:Nat×Nat) (p1:p.1 < H) (p2:p.2 < W) (q1:q.1 < H) (q2:q.2 < W) (hH:H≤1000) (hW:W≤1000):run prog (n + 1) "_law_far" [.f (cellN p),.f (cellN q),I H,I W] h=.ok (I (dN H W p q:Nat)) h:=by
  have a1:=far_mod p1 q1
  have a2:=far_mod p2 q2
  have b1:∀ hh,binV true .mod (I ((p.1:Int) - q.1)) (I H) hh=.ok (I (((p.1:Int) - q.1) % H)) hh:=fun hh=>bin_mod _ _ _ (by lia)
  have b2:∀ hh,binV true .mod (I ((p.2:Int) - q.2)) (I W) hh=.ok (I (((p.2:Int) - q.2) % W)) hh:=fun hh=>bin_mod _ _ _ (by lia)
  have m1:=mul_N (rndN H (absN p.1 q.1)) (Nat.le_trans (rndN_le _ _) hH)
  have m2:=mul_N (rndN W (absN p.2 q.2)) (Nat.le_trans (rndN_le _ _) hW)
  rw [r_d__law_far]; simp only [d__law_far]
  simp [cellN,bltV_min2,b1,b2,a1,a2,dN,m1,m2]
theorem leave_ref (xs:List FV):leave h (.ref h.length) (h++[.lst (xs.map .f)])=.ok (.ref h.length) (h++[.lst (xs.map .f)]):=by
  have cl:=cellL_app h [] (xs.map MV.f)
  have tr:=TrOk.app h [.lst (xs.map MV.f)]
  have ef:=allF_mapf xs
  generalize xs.map MV.f=M at *
  simp [leave,cl,tr,ef]
theorem run_cells_by_rows (H W:Nat) (hHW:H * W≤100000) (hW:W≤10000) (hH:H≤10000):run prog (n + 1) "cells_by_rows" [I H,I W] h=.ok (.ref h.length) (h++[.lst (((rowsO H W).map cellN).map .f)]):=by
  refine Ret.eq fun Q hQ=>?_
  rw [r_d_cells_by_rows]
  simp only [d_cells_by_rows]
  simp [itV_range _ (H:Int) (by lia)]
  refine for_range (Q:=fun r=>Ret (leaveS _ r) _) H (fun i σ hh=>∃ (z3:Option MV),hh=h++[.lst (((rowsO i W).map cellN).map .f)]∧σ=[some (I H),some (I W),some (.ref h.length),z3]) ⟨none,by simp [rowsO],rfl⟩ ?_ ?_
  · rintro i σ hh hil ⟨z3,rfl,rfl⟩ Q hQ
    have nx:((rowsO (i + 1) W).map cellN).map MV.f=((rowsO i W).map cellN).map MV.f++(((List.range W).map fun c=>cellN (i,c)).map MV.f):=by
      unfold rowsO
      rw [List.range_succ,List.flatMap_append,List.map_append,List.map_append]
      simp [Function.comp_def]
    simp only [nx] at hQ
    have ml:(((rowsO i W).map cellN).map MV.f).length + ((List.range W).map fun c=>cellN (i,c)).length≤sizeL:=by
      have:i * W≤H * W:=Nat.mul_le_mul_right _ (by lia)
      simp [rowsO_len,sizeL_eq]; lia
    generalize ((rowsO i W).map cellN).map MV.f=M at *
    have cl:=cellL_app h [] M
    have st:=fun ys=>setCell_app h [] M ys
    simp [loopB,cl,itV_range _ (W:Int) (by lia),MP.stM]
    rw [compL_one (e:=fun k:Nat=>I k) (g:=fun c=>MV.f (cellN (i,c))) (List.range W) [] none (by simp [sizeL_eq]; lia) (fun c _ z=>⟨some (I c),by simp [compB]⟩)]
    have e2:(List.range W).map (fun c=>MV.f (cellN (i,c)))=((List.range W).map fun c=>cellN (i,c)).map MV.f:=by simp [Function.comp_def]
    simp only [List.nil_append,R.bind_ok,e2,newL_true_mapf]
    generalize (List.range W).map (fun c=>cellN (i,c))=L at *
    simp [lmV_extendA,cl,ml,st]
    exact hQ _ _ ⟨_,rfl,rfl⟩
  · rintro σ hh ⟨z3,rfl,rfl⟩
    have lv:=leave_ref h ((rowsO H W).map cellN)
    generalize ((rowsO H W).map cellN).map MV.f=M at *
    simp [lv]
    exact hQ _ _ ⟨rfl,rfl⟩
end
end MP
end
section
set_option maxHeartbeats 2000000
namespace MP
open PySem
noncomputable def natsV (l:List Nat):FV:=.lst (l.map fun d:Nat=>.int d)
theorem seq_nats (l:List Nat) (hh:MH):seqOf hh (.f (natsV l))=some (l.map fun d:Nat=>I d):=by simp [natsV]
theorem list_nats (l:List Nat) (hh:MH):listOf hh (.f (natsV l))=some (l.map fun d:Nat=>I d):=by simp [natsV]
theorem ints_nats:∀ l:List Nat,intsOf (l.map fun d:Nat=>I d)=some (l.map fun d:Nat=>(d:Int))
  | []=>rfl
  | x::r=>by simp only [List.map_cons,intsOf,ints_nats r,Option.map_some]
theorem max_nats (x:Nat) (r:List Nat) (hh:MH):bltV true "max" [.f (natsV (x::r))] hh=.ok (I (maxN x r:Nat)) hh:=by
  rw [bltV_max true hh _ ((x::r).map fun d:Nat=>(d:Int)) (by rw [seq_nats,Option.bind_some,ints_nats]) (by simp)]
  rw [← maxI_N]; rfl
theorem idx_nats (x:Nat) (r:List Nat) (hh:MH):tx2V .idx (.f (natsV (x::r))) (I (maxN x r:Nat)) hh=.ok (I (spot (x::r):Nat)) hh:=by
  show opt ((listOf hh _).bind intsOf) _=_
  rw [list_nats,Option.bind_some,ints_nats]
  show opt (L3.idxI _ _) _=_
  rw [idxI_N,(spot_idx x r).1]; rfl
theorem t2g_nats (l:List Nat) (hh:MH):t2g .idx (.f (natsV l)) hh=some ⟨#[]⟩:=by rw [t2g_idx,list_nats]; rfl
theorem pair_min (a b:Nat) (hh:MH):bltV true "min" [.f (.tup [.int a,.int b])] hh=.ok (I ((if b < a then b else a:Nat):Nat)) hh:=by
  rw [bltV_min true hh _ [(a:Int),(b:Int)] (by simp) (by simp)]
  show R.ok (I (if (b:Int) < a then b else a)) hh=_
  by_cases c:b < a
  · rw [if_pos c,if_pos (by lia)]
  · rw [if_neg c,if_neg (by lia)]
theorem zip_nats (l m:List Nat):((l.map fun d:Nat=>I d).zip (m.map fun d:Nat=>I d)).map (fun p=>mkTup [p.1,p.2])=(l.zip m).map fun p:Nat×Nat=>MV.f (.tup [.int p.1,.int p.2]):=by
  rw [List.zip_map,List.map_map]; rfl
theorem zw_nats (l m:List Nat):(l.zip m).map (fun p:Nat×Nat=>I ((if p.2 < p.1 then p.2 else p.1:Nat):Nat))=(List.zipWith (fun a b=>if b < a then b else a) l m).map fun d:Nat=>I d:=by
  rw [List.zip_eq_zipWith,List.map_zipWith,List.map_zipWith]
theorem rowsO_in {H W:Nat} {c:Nat×Nat} (h:c∈rowsO H W):c.1 < H∧c.2 < W:=by
  unfold rowsO at h
  simp only [List.mem_flatMap,List.mem_range,List.mem_map] at h
  obtain ⟨r,hr,k,hk,rfl⟩:=h
  exact ⟨hr,hk⟩
theorem frz_tail (g:MH) (xs:List FV) (t:MH):frzV (.ref g.length) (g++.lst (xs.map .f)::t)=.ok (.f (.lst xs)) (g++.dead::t):=by
  rw [frz_flat _ _ xs (cellL_app g t (xs.map MV.f))]
  congr 1
  refine List.ext_getElem? fun i=>?_
  unfold kill
  rw [List.getElem?_mapIdx]
  by_cases q:i=g.length
  · subst q; simp
  · by_cases q2:i < g.length
    · simp [List.getElem?_append_left q2,q]
    · have e:∀ c:Cell,(g++c::t)[i]?=t[i - g.length - 1]?:=fun c=>by
        rw [List.getElem?_append_right (by lia),List.getElem?_cons,if_neg (by lia)]
      rw [e,e]
      cases t[i - g.length - 1]? <;> simp [q]
noncomputable def kW (k W:Nat):Int:=((k * W:Nat):Int)
noncomputable def spR (H W:Nat):List (List Int):=(spRows H W).map fun r=>r.map fun x:Nat=>(x:Int)
section
variable (n:Nat) (h:MH)
theorem run_spread_tile {H W:Nat} (h1:1≤H) (w1:1≤W) (hH:H≤100) (hW:W≤100) (g:GoodT 1 (H * W:Nat) (spR H W)):run prog (n + 3) "spread_tile" [I H,I W] h=.ok (.f (tileV (H * W:Nat) (spR H W))) h:=by
  have hHW:H * W≤10000:=Nat.mul_le_mul hH hW
  have pos:0 < H * W:=Nat.mul_pos h1 w1
  have C:=run_cells_by_rows (n + 1) h H W (by lia) (by lia) (by lia)
  have F:=frz_tail h ((rowsO H W).map cellN) []
  rw [List.map_map] at F
  have m1:=mul_N H (by lia)
  have m2:=mul_N W (by lia)
  have MT:=fun hh=>make_Tile n hh (H * W:Nat) false false (spR H W) g
  have cl:=rowsO_len H W
  have ci:∀ c∈rowsO H W,c.1 < H∧c.2 < W:=fun c hc=>rowsO_in hc
  generalize hc:rowsO H W=cs at *
  have q:∀ hh,seqOf hh (.f (.lst (cs.map cellN)))=some (cs.map (MV.f∘cellN)):=fun hh=>by simp
  have lc:cellL (h++[.dead,.lst ((List.replicate cs.length 0).map fun d:Nat=>I d)]) (h.length + 1)=some ((List.replicate cs.length 0).map fun d:Nat=>I d):=by
    have:=cellL_app (h++[.dead]) [] ((List.replicate cs.length 0).map fun d:Nat=>I d)
    simpa using this
  refine Ret.eq fun Q hQ=>?_
  rw [r_d_spread_tile]; simp only [d_spread_tile]
  have b1:∀ hh,binV false .mul (.f (.lst [.int 0])) (I ((cs.length:Nat):Int)) hh=newL false ((List.replicate cs.length 0).map fun d:Nat=>I d) hh:=fun hh=>by
    have e:(List.replicate cs.length [MV.f (.int (0:Int))]).flatten=(List.replicate cs.length 0).map fun d:Nat=>I d:=by
      rw [List.flatten_replicate_singleton]; simp
    have c:-(2 ^ 63)≤((cs.length:Nat):Int)∧((cs.length:Nat):Int) < 2 ^ 63∧1 * ((cs.length:Nat):Int).toNat≤sizeL:=⟨by lia,by lia,by rw [sizeL_eq]; lia⟩
    unfold binV
    simp only [intOf,listOf,opt_some,List.map_cons,List.map_nil,List.length_cons,List.length_nil,Nat.zero_add]
    rw [if_pos c,Int.toNat_natCast,e]
  have b2:∀ hh,binV true .mul (.f (.lst [.int ((H:Int) * H + (W:Int) * W)])) (I ((cs.length:Nat):Int)) hh=.ok (.f (natsV (List.replicate cs.length (H * H + W * W)))) hh:=fun hh=>by
    have e:(List.replicate cs.length [MV.f (.int ((H:Int) * H + (W:Int) * W))]).flatten=((List.replicate cs.length (H * H + W * W)).map fun d:Nat=>FV.int d).map MV.f:=by
      rw [List.flatten_replicate_singleton]; simp
    have c:-(2 ^ 63)≤((cs.length:Nat):Int)∧((cs.length:Nat):Int) < 2 ^ 63∧1 * ((cs.length:Nat):Int).toNat≤sizeL:=⟨by lia,by lia,by rw [sizeL_eq]; lia⟩
    unfold binV
    simp only [intOf,listOf,opt_some,List.map_cons,List.map_nil,List.length_cons,List.length_nil,Nat.zero_add]
    rw [if_pos c,Int.toNat_natCast,e,newL_true_mapf]
    rfl
  have n1:¬ ((H:Int) < 1):=by lia
  have n2:¬ ((W:Int) < 1):=by lia
  have r2:∀ hh,itV "range" [I 1,I ((cs.length:Int) + 1)] hh=some ((List.range cs.length).map fun k:Nat=>I (1 + (k:Int)),[]):=fun hh=>by
    have e:((cs.length:Int) + 1 - 1).toNat=cs.length:=by lia
    rw [itV_range2 hh 1 ((cs.length:Int) + 1) (by lia),e]
  simp [n1,n2,C,F,q,m1,m2,b1,b2,r2,allF,-List.map_replicate]
  have cl2:∀ ys:List MV,cellL (h++[.dead,.lst ys]) (h.length + 1)=some ys:=fun ys=>by have:=cellL_app (h++[.dead]) [] ys; simpa using this
  have st2:∀ ys zs:List MV,setCell (h++[.dead,.lst ys]) (h.length + 1) zs=h++[.dead,.lst zs]:=fun ys zs=>by have:=setCell_app (h++[.dead]) [] ys zs; simpa using this
  refine for_list (Q:=fun r=>Ret (leaveS _ r) _) (e:=fun k:Nat=>I (1 + (k:Int))) (List.range cs.length) (fun i σ hh=>∃ (z5 z6 z7:Option MV),hh=h++[.dead,.lst ((spGo H W cs i).1.map fun d:Nat=>I d)]∧σ=[some (I H),some (I W),some (.f (.lst (cs.map cellN))),some (.ref (h.length + 1)),some (.f (natsV (spGo H W cs i).2)),z5,z6,z7]) ?_ ?_ ?_
  · exact ⟨none,none,none,rfl,rfl⟩
  · rintro i y σ hh hi ⟨z5,z6,z7,rfl,rfl⟩ Q hQ
    obtain (⟨hil,rfl⟩):i < cs.length∧i=y:=by
      obtain (⟨a,b⟩):=List.getElem?_eq_some_iff.mp hi
      rw [List.getElem_range] at b
      exact ⟨by simpa using a,b⟩
    obtain (⟨g1,g2⟩):=spGo_len H W cs i
    have gs:spGo H W cs (i + 1)=spStep H W cs (spGo H W cs i) (i + 1):=rfl
    rw [gs] at hQ
    generalize spGo H W cs i=st at *
    obtain (⟨nu,ne⟩):=st
    simp only [spStep] at hQ g1 g2 ⊢
    cases ne with
    | nil=>simp at g2; lia
    | cons x r =>
      have MX:=max_nats x r
      have IX:=idx_nats x r
      have TG:=t2g_nats (x::r)
      obtain (⟨_,sl⟩):=spot_idx x r
      generalize x::r=ne at *
      generalize spot ne=pl at *
      have pl2:pl < cs.length:=by lia
      have ix:ixM nu.length (pl:Int)=some pl:=by unfold ixM; rw [if_pos (by lia),if_pos (by lia)]; simp
      have at1:atM (cs.map (MV.f∘cellN)) (pl:Int)=some (.f (cellN (cs.getD pl (0,0)))):=by
        rw [atM_pos _ _ (by lia),Int.toNat_natCast,List.getElem?_map,List.getElem?_eq_getElem pl2]; simp [List.getD,pl2]
      have cp:=ci (cs.getD pl (0,0)) (by simp [List.getD,pl2])
      generalize cs.getD pl (0,0)=c0 at *
      have sn:=seq_nats
      have D:=fun (c:Nat×Nat) (hc:c∈cs) hh=>run_distance (n:=n) (h:=hh) c c0 (ci c hc).1 (ci c hc).2 cp.1 cp.2 (by lia) (by lia)
      simp [loopB,MX,IX,list_nats,cl2,st2,ix,q,MP.stM]
      rw [compL_one (e:=MV.f∘cellN) (g:=fun c=>I (dN H W c c0:Nat)) cs [] none (by simp [sizeL_eq]; lia) (fun c hc z=>⟨some (.f (cellN c)),by simp [compB,q,at1,D c hc]⟩)]
      have e1:cs.map (fun c=>I (dN H W c c0:Nat))=((cs.map fun c=>dN H W c c0).map fun d:Nat=>FV.int d).map MV.f:=by simp [Function.comp_def]
      simp only [List.nil_append,R.bind_ok,e1,newL_true_mapf]
      have nv:FV.lst ((cs.map fun c=>dN H W c c0).map fun d:Nat=>FV.int d)=natsV (cs.map fun c=>dN H W c c0):=rfl
      rw [nv]
      have gl:(cs.map fun c=>dN H W c c0).length=cs.length:=by simp
      generalize (cs.map fun c=>dN H W c c0)=ap at *
      simp [seq_nats,zip_nats,MP.stM]
      have zl:(ne.zip ap).length≤10000:=by rw [List.length_zip]; lia
      rw [compL_one (e:=fun p:Nat×Nat=>MV.f (.tup [.int p.1,.int p.2])) (g:=fun p:Nat×Nat=>I ((if p.2 < p.1 then p.2 else p.1:Nat):Nat)) (ne.zip ap) [] none (by rw [sizeL_eq]; simp only [List.length_nil]; lia) (fun p _ z=>⟨some (.f (.tup [.int p.1,.int p.2])),by have:=pair_min p.1 p.2; generalize (if p.2 < p.1 then p.2 else p.1)=m at *; simp [compB,this]⟩)]
      rw [zw_nats]
      have e2:∀ l:List Nat,l.map (fun d:Nat=>I d)=(l.map fun d:Nat=>FV.int d).map MV.f:=fun l=>by simp [Function.comp_def]
      have e3:(nu.map fun d:Nat=>I d).set pl (I (1 + (i:Int)))=(nu.set pl (i + 1)).map fun d:Nat=>I d:=by
        have e4:(1 + (i:Int))=((i + 1:Nat):Int):=by lia
        rw [e4,List.map_set]
      rw [List.nil_append,e2 (List.zipWith _ ne ap),e3]
      simp only [R.bind_ok,newL_true_mapf]
      have nz:∀ l:List Nat,FV.lst (l.map fun d:Nat=>FV.int d)=natsV l:=fun l=>rfl
      rw [nz]
      generalize (nu.set pl (i + 1)).map (fun d:Nat=>I d)=nn at *
      generalize List.zipWith (fun a b=>if b < a then b else a) ne ap=zz at *
      simp
      exact hQ _ _ ⟨_,_,_,rfl,rfl⟩
  · rintro σ hh ⟨z5,z6,z7,rfl,rfl⟩
    have LR:=List.length_range (n:=cs.length)
    rw [LR]
    obtain (⟨g1,g2⟩):=spGo_len H W cs cs.length
    have r3:∀ hh,itV "range" [I 0,I ((cs.length:Nat):Int),I W] hh=some ((List.range H).map fun k:Nat=>I (kW k W),[]):=fun hh=>by
      rw [cl,itV_range3 hh 0 ((H * W:Nat):Int) W (by lia)]
      have e:rlen 0 ((H * W:Nat):Int) W=H:=by
        unfold rlen
        rw [if_pos (by lia)]
        have:(((H * W:Nat):Int) - 0 - 1) / W=H - 1:=by
          rw [show (((H * W:Nat):Int) - 0 - 1)=(W - 1:Int) + (H - 1:Int) * W by rw [Int.sub_mul]; lia,Int.add_mul_ediv_right _ _ (by lia),Int.ediv_eq_zero_of_lt (by lia) (by lia)]; lia
        rw [this]; lia
      rw [e]
      simp [kW]
    have hc2:(spGo H W cs cs.length).1=(spGo H W (rowsO H W) (H * W)).1:=by rw [hc,cl]
    generalize (spGo H W cs cs.length).1=nu at *
    generalize (spGo H W cs cs.length).2=ne at *
    have sl:∀ k:Nat,sliceV true (.ref (h.length + 1)) (some (kW k W)) (some (kW k W + W)) (h++[.dead,.lst (nu.map fun d:Nat=>I d)])=.ok (.f (rowV false (((nu.drop (k * W)).take W).map fun d:Nat=>(d:Int)))) (h++[.dead,.lst (nu.map fun d:Nat=>I d)]):=fun k=>by
      have e:cutM (nu.map fun d:Nat=>I d) (some (kW k W)) (some (kW k W + W))=((((nu.drop (k * W)).take W).map fun d:Nat=>(d:Int)).map FV.int).map MV.f:=by
        unfold kW
        rw [cut_any _ _ _ (by lia) (by lia),show ((((k * W:Nat):Int) + W).toNat - ((k * W:Nat):Int).toNat)=W by lia,Int.toNat_natCast]
        simp [Function.comp_def]
      have sq0:seqOf (h++[.dead,.lst (nu.map fun d:Nat=>I d)]) (.ref (h.length + 1))=some (nu.map fun d:Nat=>I d):=by
        have:=cl2 (nu.map fun d:Nat=>I d)
        simp [this]
      show opt (seqOf (h++[.dead,.lst (nu.map fun d:Nat=>I d)]) (.ref (h.length + 1))) (fun xs=>newL true (cutM xs (some (kW k W)) (some (kW k W + W))) _)=_
      rw [sq0,opt_some,e,newL_true_mapf]; rfl
    have rr:spR H W=(List.range H).map fun k=>((nu.drop (k * W)).take W).map fun d:Nat=>(d:Int):=by
      unfold spR spRows
      rw [← hc2,List.map_map]; rfl
    generalize hg:h++[.dead,.lst (nu.map fun d:Nat=>I d)]=gg at *
    simp [q,r3,MP.stM]
    rw [compL_one (e:=fun k:Nat=>I (kW k W)) (g:=fun k:Nat=>.f (rowV false (((nu.drop (k * W)).take W).map fun d:Nat=>(d:Int)))) (List.range H) [] none (by simp [sizeL_eq]; lia) (fun k _ z=>⟨some (I (kW k W)),by simp [compB,sl k]⟩)]
    have e5:(List.range H).map (fun k:Nat=>MV.f (rowV false (((nu.drop (k * W)).take W).map fun d:Nat=>(d:Int))))=((spR H W).map (rowV false)).map MV.f:=by
      rw [rr,List.map_map,List.map_map]; rfl
    rw [List.nil_append,e5]
    simp only [R.bind_ok,newL_true_mapf]
    have e6:FV.lst ((spR H W).map (rowV false))=rowsV false false (spR H W):=rfl
    rw [e6]
    have MT':=MT gg
    rw [← cl] at MT' hQ
    generalize rowsV false false (spR H W)=rv at *
    generalize tileV _ (spR H W)=tv at *
    simp [MT']
    subst hg
    rw [leave_app]
    simp
    exact hQ _ _ ⟨rfl,rfl⟩
end
end MP
end
section
set_option maxHeartbeats 2000000
namespace MP
open PySem
theorem cell_lt {g:MH} {a:Nat} {xs:List MV} (e:cellL g a=some xs):a < g.length:=by
  unfold cellL at e
  split at e
  next q=>exact (List.getElem?_eq_some_iff.mp q).1
  next=>cases e
theorem cell_set {g:MH} {a:Nat} {xs:List MV} (e:cellL g a=some xs) (ys:List MV):cellL (setCell g a ys) a=some ys:=by
  have:=cell_lt e
  unfold cellL setCell
  rw [List.getElem?_set_self this]
theorem cell_ne {g:MH} {a b:Nat} (ne:a≠b) (ys:List MV):cellL (setCell g a ys) b=cellL g b:=by
  unfold cellL setCell
  rw [List.getElem?_set_ne ne]
theorem set_pre {h t:MH} {a:Nat} (ha:h.length≤a) (ys:List MV):∃ t',setCell (h++t) a ys=h++t':=⟨t.set (a - h.length) (.lst ys),by unfold setCell; rw [List.set_append_right _ _ ha]⟩
theorem pop_at {g:MH} {a k:Nat} {xs:List MV} {y:MV} (e:cellL g a=some xs) (hk:xs[k]?=some y) (hl:xs.length≤10000):lmV "pop" (.ref a) [I (k:Nat)] g=.ok y (setCell g a (xs.take k++xs.drop (k + 1))):=by
  have kl:=(List.getElem?_eq_some_iff.mp hk).1
  have ix:ixM xs.length (k:Int)=some k:=by unfold ixM; rw [if_pos (by lia),if_pos (by lia)]; simp
  show opt (cellL g a) (fun xs=>opt (intOf (I (k:Nat))) fun i=>opt (ixM xs.length i) fun k=>opt (xs[k]?) fun y=>if -(2 ^ 63)≤i∧i < 2 ^ 63 then .ok y (setCell g a (xs.take k++xs.drop (k + 1))) else .stuck)=_
  rw [e]
  simp only [opt_some,intOf,ix,hk]
  rw [if_pos ⟨by lia,by lia⟩]
theorem idx_ref {g:MH} {b x:Nat} {r:List Nat} (e:cellL g b=some ((x::r).map fun d:Nat=>I d)):tx2V .idx (.ref b) (I (maxN x r:Nat)) g=.ok (I (spot (x::r):Nat)) g:=by
  show opt ((cellL g b).bind intsOf) _=_
  rw [e,Option.bind_some,ints_nats]
  show opt (L3.idxI _ _) _=_
  rw [idxI_N,(spot_idx x r).1]; rfl
theorem max_ref {g:MH} {b x:Nat} {r:List Nat} (e:cellL g b=some ((x::r).map fun d:Nat=>I d)):bltV true "max" [.ref b] g=.ok (I (maxN x r:Nat)) g:=by
  rw [bltV_max true g _ ((x::r).map fun d:Nat=>(d:Int)) (by show (cellL g b).bind intsOf=_; rw [e,Option.bind_some,ints_nats]) (by simp)]
  rw [← maxI_N]; rfl
theorem lsGo_len (H W:Nat):∀ k,k≤H * W→(lsGo H W k).1.length=H * W - k∧(lsGo H W k).2.1.length=H * W - k∧(lsGo H W k).2.2.length=k∧∀ c∈(lsGo H W k).1,c.1 < H∧c.2 < W
  | 0,_=>⟨by simp [lsGo,rowsO_len],by simp [lsGo],rfl,fun c hc=>rowsO_in hc⟩
  | k + 1,hk=>by
    obtain (⟨a,b,c,d⟩):=lsGo_len H W k (by lia)
    have gs:lsGo H W (k + 1)=lsStep H W (lsGo H W k):=rfl
    rw [gs]
    generalize lsGo H W k=st at *
    obtain (⟨l,ne,f⟩):=st
    simp only at a b c d
    cases ne with
    | nil=>simp at b; lia
    | cons x r =>
      obtain (⟨_,sl⟩):=spot_idx x r
      simp only [lsStep]
      generalize x::r=ne at *
      generalize spot ne=s at *
      have h1:(l.take s++l.drop (s + 1)).length=H * W - (k + 1):=by simp; lia
      have h2:(ne.take s++ne.drop (s + 1)).length=H * W - (k + 1):=by simp; lia
      refine ⟨h1,by simp only [List.length_zipWith,List.length_map,h1,h2]; lia,by simp [c],fun q hq=>d q ?_⟩
      rcases List.mem_append.mp hq with hq | hq
      · exact List.mem_of_mem_take hq
      · exact List.mem_of_mem_drop hq
noncomputable def fndV (p:(Nat×Nat)×Nat):FV:=.tup [cellN p.1,.int p.2]
section
variable (n:Nat) (h:MH)
theorem run_law_spread {H W:Nat} (h1:1≤H) (w1:1≤W) (hH:H≤100) (hW:W≤100):run prog (n + 2) "_law_spread" [I H,I W] h=.ok (.f (.lst ((lsGo H W (H * W)).2.2.map fndV))) h:=by
  have hHW:H * W≤10000:=Nat.mul_le_mul hH hW
  have m1:=mul_N H (by lia)
  have m2:=mul_N W (by lia)
  refine Ret.eq fun Q hQ=>?_
  rw [r_d__law_spread]; simp only [d__law_spread]
  simp [itV_range _ (H:Int) (by lia)]
  refine for_range (Q:=fun r=>Ret (leaveS _ r) _) H (fun i σ hh=>∃ (t:MH) (a:Nat) (z3:Option MV),hh=h++t∧h.length≤a∧cellL hh a=some ((rowsO i W).map (MV.f∘cellN))∧σ=[some (I H),some (I W),some (.ref a),z3,none,none,none,none]) ⟨_,h.length,none,rfl,Nat.le_refl _,cellL_app h [] [],rfl⟩ ?_ ?_
  · rintro i σ hh hil ⟨t,a,z3,rfl,ha,ea,rfl⟩ Q hQ
    have nx:(rowsO (i + 1) W).map (MV.f∘cellN)=(rowsO i W).map (MV.f∘cellN)++((List.range W).map fun c=>MV.f (cellN (i,c))):=by
      unfold rowsO
      rw [List.range_succ,List.flatMap_append,List.map_append]
      simp [Function.comp_def]
    rw [nx] at hQ
    have ml:((rowsO i W).map (MV.f∘cellN)).length + ((List.range W).map fun c=>MV.f (cellN (i,c))).length≤sizeL:=by
      have:i * W≤H * W:=Nat.mul_le_mul_right _ (by lia)
      simp [rowsO_len,sizeL_eq]; lia
    generalize (rowsO i W).map (MV.f∘cellN)=M at *
    simp [loopB,itV_range _ (W:Int) (by lia),MP.stM]
    rw [compL_one (e:=fun k:Nat=>I k) (g:=fun c=>MV.f (cellN (i,c))) (List.range W) [] none (by simp [sizeL_eq]; lia) (fun c _ z=>⟨some (I c),by simp [compB]⟩)]
    have e2:(List.range W).map (fun c=>MV.f (cellN (i,c)))=((List.range W).map fun c=>cellN (i,c)).map MV.f:=by simp [Function.comp_def]
    rw [e2] at ml hQ
    simp only [List.nil_append,R.bind_ok,e2,newL_true_mapf]
    generalize (List.range W).map (fun c=>cellN (i,c))=L at *
    have ad:binV false .add (.ref a) (.f (.lst L)) (h++t)=.ok (.ref (h++t).length) ((h++t)++[.lst (M++L.map MV.f)]):=by
      show opt (cellL (h++t) a) (fun xs=>opt (some (L.map MV.f)) fun ys=>if xs.length + ys.length≤sizeL then newL false (xs++ys) (h++t) else .stuck)=_
      rw [ea]
      simp only [opt_some]
      rw [if_pos ml]; rfl
    have eb:=cellL_app (h++t) [] (M++L.map MV.f)
    generalize hg:M++L.map MV.f=MM at *
    simp only [ad]
    simp
    rw [List.length_append] at eb
    refine hQ _ _ ⟨t++[.lst MM],h.length + t.length,_,by simp,by lia,?_,rfl⟩
    simpa using eb
  · rintro σ hh ⟨t,a,z3,rfl,ha,ea,rfl⟩
    have gk:GuardOk (guardOf (h++t) (.ref a)) (h++t):=by
      show GuardOk (match cellL (h++t) a with | some xs=>[(a,xs)] | none=>[]) _
      rw [ea]
      exact GuardOk_one ea
    have ml:((H:Int) * H + (W:Int) * W)=((H * H + W * W:Nat):Int):=by simp
    simp [ea,MP.stM]
    rw [compL_oneG (e:=MV.f∘cellN) (g:=fun _=>I ((H * H + W * W:Nat):Int)) gk (rowsO H W) [] none (by simp [sizeL_eq,rowsO_len]; lia) (fun c _ z=>⟨some (.f (cellN c)),by rw [← ml]; simp [compB,m1,m2]⟩)]
    have e1:(rowsO H W).map (fun _=>I ((H * H + W * W:Nat):Int))=(List.replicate (H * W) (H * H + W * W)).map fun d:Nat=>I d:=by
      rw [List.map_replicate,← rowsO_len H W]; exact List.map_const' ..
    simp only [List.nil_append,R.bind_ok,e1]
    have al:=cell_lt ea
    have hb:=cellL_app (h++t) [.lst []] ((List.replicate (H * W) (H * H + W * W)).map fun d:Nat=>I d)
    have hc:=cellL_app (h++t++[.lst ((List.replicate (H * W) (H * H + W * W)).map fun d:Nat=>I d)]) [] []
    have ea2:=cellL_left (t:=[.lst ((List.replicate (H * W) (H * H + W * W)).map fun d:Nat=>I d),.lst []]) ea
    generalize hN:(List.replicate (H * W) (H * H + W * W)).map (fun d:Nat=>I d)=NN at *
    simp
    refine while_do (Q:=fun r=>Ret (leaveS _ r) _) (H * W) (fun i σ hh=>∃ (t:MH) (a b c:Nat) (z3 z6 z7:Option MV),hh=h++t∧h.length≤a∧h.length≤b∧h.length≤c∧a≠b∧a≠c∧b≠c ∧
      cellL hh a=some ((lsGo H W i).1.map (MV.f∘cellN))∧cellL hh b=some ((lsGo H W i).2.1.map fun d:Nat=>I d)∧cellL hh c=some ((lsGo H W i).2.2.map (MV.f∘fndV)) ∧
      σ=[some (I H),some (I W),some (.ref a),z3,some (.ref b),some (.ref c),z6,z7]) (by show H * W < 1000000; lia) ?_ ?_ ?_ ?_
    · simp at hc hb al
      exact ⟨t++[.lst NN,.lst []],a,h.length + t.length,h.length + t.length + 1,z3,none,none,by simp,ha,by lia,by lia,by lia,by lia,by lia,by simpa [lsGo] using ea2,by simpa [lsGo,hN] using hb,by simpa [lsGo,Nat.add_assoc] using hc,rfl⟩
    · rintro i σ hh hi ⟨t,a,b,c,z3,z6,z7,rfl,ha,hb,hc,ab,ac,bc,ea,eb,ec,rfl⟩
      obtain (⟨l1,l2,l3,l4⟩):=lsGo_len H W i (by lia)
      have gs:lsGo H W (i + 1)=lsStep H W (lsGo H W i):=rfl
      rw [gs]
      generalize lsGo H W i=st at *
      obtain (⟨lf,ne,fd⟩):=st
      simp only at l1 l2 l3 l4 ea eb ec ⊢
      refine ⟨by simp [ea,l1]; lia,fun Q hQ=>?_⟩
      cases ne with
      | nil=>simp at l2; lia
      | cons x r =>
        have MX:=max_ref eb
        have IX:=idx_ref eb
        obtain (⟨_,sl⟩):=spot_idx x r
        simp only [lsStep] at hQ
        have EB:cellL (h++t) b=some ((x::r).map fun d:Nat=>I d):=eb
        generalize hne:x::r=ne at *
        clear eb
        generalize spot ne=s at *
        generalize maxN x r=mx at *
        have sl1:s < lf.length:=by lia
        have k1:(lf.map (MV.f∘cellN))[s]?=some (.f (cellN (lf.getD s (0,0)))):=by rw [List.getElem?_map,List.getElem?_eq_getElem sl1]; simp [List.getD,sl1]
        have k2:(ne.map fun d:Nat=>I d)[s]?=some (I (ne.getD s 0:Nat)):=by rw [List.getElem?_map,List.getElem?_eq_getElem sl]; simp [List.getD,sl]
        have cb:=l4 (lf.getD s (0,0)) (by simp [List.getD,sl1])
        generalize lf.getD s (0,0)=cc at *
        generalize ne.getD s 0=dd at *
        have P1:=pop_at ea k1 (by simp; lia)
        rw [← List.map_take,← List.map_drop,← List.map_append] at P1
        have C1:=cell_set ea ((lf.take s++lf.drop (s + 1)).map (MV.f∘cellN))
        obtain (⟨t1,S1⟩):=set_pre (t:=t) ha ((lf.take s++lf.drop (s + 1)).map (MV.f∘cellN))
        have EB1:cellL (setCell (h++t) a ((lf.take s++lf.drop (s + 1)).map (MV.f∘cellN))) b=_:=(cell_ne ab _).trans EB
        have EC1:cellL (setCell (h++t) a ((lf.take s++lf.drop (s + 1)).map (MV.f∘cellN))) c=_:=(cell_ne ac _).trans ec
        rw [S1] at P1 C1 EB1 EC1
        have P2:=pop_at EB1 k2 (by simp; lia)
        rw [← List.map_take,← List.map_drop,← List.map_append] at P2
        have C2:=cell_set EB1 ((ne.take s++ne.drop (s + 1)).map fun d:Nat=>I d)
        obtain (⟨t2,S2⟩):=set_pre (t:=t1) hb ((ne.take s++ne.drop (s + 1)).map fun d:Nat=>I d)
        have EA2:cellL (setCell (h++t1) b ((ne.take s++ne.drop (s + 1)).map fun d:Nat=>I d)) a=_:=(cell_ne ab.symm _).trans C1
        have EC2:cellL (setCell (h++t1) b ((ne.take s++ne.drop (s + 1)).map fun d:Nat=>I d)) c=_:=(cell_ne bc _).trans EC1
        rw [S2] at P2 C2 EA2 EC2
        obtain (⟨t3,S3⟩):=set_pre (t:=t2) hc ((fd++[(cc,dd)]).map (MV.f∘fndV))
        have AP:lmV "append" (.ref c) [.f (.tup [cellN cc,.int dd])] (h++t2)=.ok (.f .non) (h++t3):=by
          show opt (cellL (h++t2) c) (fun xs=>if xs.length < sizeL then R.ok (MV.f .non) (setCell (h++t2) c (xs++[.f (.tup [cellN cc,.int dd])])) else .stuck)=_
          rw [EC2]
          simp only [opt_some]
          rw [if_pos (by rw [List.length_map,sizeL_eq]; lia),← S3]
          simp [fndV]
        have EA3:cellL (setCell (h++t2) c ((fd++[(cc,dd)]).map (MV.f∘fndV))) a=_:=(cell_ne ac.symm _).trans EA2
        have EB3:cellL (setCell (h++t2) c ((fd++[(cc,dd)]).map (MV.f∘fndV))) b=_:=(cell_ne bc.symm _).trans C2
        have EC3:=cell_set EC2 ((fd++[(cc,dd)]).map (MV.f∘fndV))
        rw [S3] at EA3 EB3 EC3
        have ll:(lf.take s++lf.drop (s + 1)).length=H * W - (i + 1):=by simp; lia
        have ln:(ne.take s++ne.drop (s + 1)).length=H * W - (i + 1):=by simp; lia
        have lin:∀ q∈lf.take s++lf.drop (s + 1),q.1 < H∧q.2 < W:=fun q hq=>l4 q (by
          rcases List.mem_append.mp hq with hq | hq
          · exact List.mem_of_mem_take hq
          · exact List.mem_of_mem_drop hq)
        generalize lf.take s++lf.drop (s + 1)=lf' at *
        generalize ne.take s++ne.drop (s + 1)=ne' at *
        have lm1:lmC (.ref a) (h++t)=some (lf.map (MV.f∘cellN)):=ea
        have lm2:lmC (.ref b) (h++t1)=_:=EB1
        have lm3:lmC (.ref c) (h++t1)=_:=EC1
        have LO:listOf (h++t) (.ref b)=_:=EB
        have rg:=itV_range (h++t3) ((lf'.length:Nat):Int) (by lia)
        simp [loopB,LO,MX,IX,lm1,lm2,lm3,P1,P2,AP,MP.stM,EA3,rg]
        have at1:∀ k∈List.range lf'.length,atM (ne'.map fun d:Nat=>I d) (k:Int)=some (I (ne'.getD k 0:Nat)):=fun k hk=>by
          have hk':k < ne'.length:=by have:=List.mem_range.mp hk; lia
          rw [atM_pos _ _ (by lia),Int.toNat_natCast,List.getElem?_map,List.getElem?_eq_getElem hk']; simp [List.getD,hk']
        have at2:∀ k∈List.range lf'.length,atM (lf'.map (MV.f∘cellN)) (k:Int)=some (.f (cellN (lf'.getD k (0,0)))):=fun k hk=>by
          have hk':k < lf'.length:=List.mem_range.mp hk
          rw [atM_pos _ _ (by lia),Int.toNat_natCast,List.getElem?_map,List.getElem?_eq_getElem hk']; simp [List.getD,hk']
        have FR:∀ k∈List.range lf'.length,run prog (n + 1) "_law_far" [.f (cellN cc),.f (cellN (lf'.getD k (0,0))),I H,I W] (h++t3)=.ok (I (dN H W cc (lf'.getD k (0,0)):Nat)) (h++t3):=fun k hk=>by
          have hk':k < lf'.length:=List.mem_range.mp hk
          have b:=lin (lf'.getD k (0,0)) (by simp [List.getD,hk'])
          exact run_far n (h++t3) cc _ cb.1 cb.2 b.1 b.2 (by lia) (by lia)
        have mn:∀ (u v:Nat),(if (v:Int) < u then (v:Int) else u)=((if v < u then v else u:Nat):Int):=fun u v=>by
          by_cases c:v < u
          · rw [if_pos c,if_pos (by lia)]
          · rw [if_neg c,if_neg (by lia)]
        rw [compL_one (e:=fun d:Nat=>I d) (g:=fun k:Nat=>I ((if dN H W cc (lf'.getD k (0,0)) < ne'.getD k 0 then dN H W cc (lf'.getD k (0,0)) else ne'.getD k 0:Nat):Nat)) (List.range lf'.length) [] none (by simp [sizeL_eq]; lia) (fun k hk z=>⟨some (I k),by
          have x1:=at1 k hk
          have x2:=at2 k hk
          have x3:=FR k hk
          rw [← mn]
          generalize dN H W cc (lf'.getD k (0,0))=u1 at *
          generalize ne'.getD k 0=u2 at *
          generalize lf'.getD k (0,0)=u3 at *
          simp [compB,EA3,EB3,x1,x2,x3]⟩)]
        have e9:(List.range lf'.length).map (fun k:Nat=>I ((if dN H W cc (lf'.getD k (0,0)) < ne'.getD k 0 then dN H W cc (lf'.getD k (0,0)) else ne'.getD k 0:Nat):Nat))=(List.zipWith (fun a b=>if b < a then b else a) ne' (lf'.map fun q=>dN H W cc q)).map fun d:Nat=>I d:=by
          refine List.ext_getElem (by simp; lia) fun k k1 k2=>?_
          have k3:k < lf'.length:=by simpa using k1
          have k4:k < ne'.length:=by lia
          simp [List.getD,k3,k4]
        rw [List.nil_append,e9]
        have EA4:=cellL_left (t:=[.lst ((List.zipWith (fun a b=>if b < a then b else a) ne' (lf'.map fun q=>dN H W cc q)).map fun d:Nat=>I d)]) EA3
        have EC4:=cellL_left (t:=[.lst ((List.zipWith (fun a b=>if b < a then b else a) ne' (lf'.map fun q=>dN H W cc q)).map fun d:Nat=>I d)]) EC3
        have EB4:=cellL_app (h++t3) [] ((List.zipWith (fun a b=>if b < a then b else a) ne' (lf'.map fun q=>dN H W cc q)).map fun d:Nat=>I d)
        have al:=cell_lt EA3
        have ac2:=cell_lt EC3
        generalize List.zipWith (fun a b=>if b < a then b else a) ne' (lf'.map fun q=>dN H W cc q)=zz at *
        generalize hzz:zz.map (fun d:Nat=>I d)=zI at *
        simp
        rw [List.length_append] at EB4 al ac2
        refine hQ _ _ ⟨t3++[.lst zI],a,h.length + t3.length,c,_,_,_,by simp,ha,by lia,hc,by lia,ac,by lia,?_,?_,?_,rfl⟩
        · simpa using EA4
        · simpa using EB4
        · simpa using EC4
    · rintro σ hh ⟨t,a,b,c,z3,z6,z7,rfl,ha,hb,hc,ab,ac,bc,ea,eb,ec,rfl⟩
      obtain (⟨l1,l2,l3,l4⟩):=lsGo_len H W (H * W) (Nat.le_refl _)
      simp [ea,l1]
    · rintro σ hh ⟨t,a,b,c,z3,z6,z7,rfl,ha,hb,hc,ab,ac,bc,ea,eb,ec,rfl⟩
      have e2:∀ l:List ((Nat×Nat)×Nat),l.map (MV.f∘fndV)=(l.map fndV).map MV.f:=fun l=>by simp
      rw [e2] at ec
      have F:=frz_flat _ _ _ ec
      obtain (⟨t',kl⟩):=kill_app h t [c] (by simpa using hc)
      rw [kl] at F
      generalize ((lsGo H W (H * W)).2.2.map fndV)=fl at *
      simp [F]
      exact hQ _ _ ⟨rfl,rfl⟩
end
end MP
end
section
set_option maxHeartbeats 2000000
namespace MP
open PySem
noncomputable def FndR (v:Option MV) (r:RS) (Iv:MSt→Prop) (h:MH):Prop:=match v with
  | none=>∃ σ,r=.next σ h∧Iv σ
  | some x=>r=.ret x h
theorem forL_find {α:Type} {bd:MV→MSt→MH→RS} {e:α→MV} {h:MH} (f:α→Option MV) (Iv:MSt→Prop):∀ (ys:List α) (σ:MSt),Iv σ →
    (∀ y∈ys,∀ σ,Iv σ→FndR (f y) (bd (e y) σ h) Iv h)→FndR (ys.findSome? f) (forL [] bd (ys.map e) σ h) Iv h
  | [],σ,i,_=>⟨σ,by simp [forL],i⟩
  | y::r,σ,i,hb=>by
    rw [List.map_cons,forL_cons]
    have hy:=hb y (by simp) σ i
    rw [List.findSome?_cons]
    cases hf:f y with
    | some v =>
      rw [hf] at hy
      show _=_
      rw [show bd (e y) σ h=.ret v h from hy]; rfl
    | none =>
      rw [hf] at hy
      obtain ⟨σ',e1,i'⟩:=hy
      rw [e1,RS.turn_next]
      exact forL_find f Iv r σ' i' fun y hy=>hb y (by simp [hy])
noncomputable def stp (H W:Nat):List (Nat×Nat×Nat):=(List.range (H / 2 + 1)).flatMap fun d=>(List.range (W / 2 + 1)).map fun r=>(d * d + r * r,d,r)
noncomputable def stpI (p:Nat×Nat×Nat):List Int:=[p.1,p.2.1,p.2.2]
noncomputable def stpV (p:Nat×Nat×Nat):FV:=.tup [.int p.1,.int p.2.1,.int p.2.2]
noncomputable def upB:List Nat→Bool
  | x::y::r=>decide (x≤y)&&upB (y::r)
  | _=>true
noncomputable def stepsOf (H W:Nat):Option (List (Nat×Nat×Nat)):=(M3.srtP ((stp H W).map stpI)).bind fun p=>if p.all (fun i=>decide (i < (stp H W).length)) then some (p.map fun i=>(stp H W).getD i (0,0,0)) else none
noncomputable def stepsOk (H W:Nat):Bool:=match stepsOf H W with
  | some l=>decide (1≤l.length)&&upB (l.map (·.1))&&(l.drop 1).all (fun s=>s.2.1 != 0 || s.2.2 != 0)&&(l.drop 1).all (fun s=>(stp H W).contains s)&&(stp H W).all fun s=>(s.2.1 == 0&&s.2.2 == 0) || (l.drop 1).contains s
  | none=>false
theorem stp_tups (l:List (Nat×Nat×Nat)):(l.map (MV.f∘stpV)).mapM tupI=some (l.map stpI):=by
  induction l with
  | nil=>rfl
  | cons x r ih=>simp [List.mapM_cons,ih,tupI,stpV,stpI]
theorem stp_pick (l:List (Nat×Nat×Nat)) (p:List Nat) (hp:p.all (fun i=>decide (i < l.length))=true):p.map (fun i=>(l.map (MV.f∘stpV)).getD i (.f .non))=((p.map fun i=>l.getD i (0,0,0)).map stpV).map MV.f:=by
  rw [List.map_map,List.map_map]
  refine List.map_congr_left fun i hi=>?_
  have:i < l.length:=by simpa using List.all_eq_true.mp hp i hi
  simp [List.getD,this]
theorem srt_run {H W:Nat} {l:List (Nat×Nat×Nat)} {g:MH} {a:Nat} (hs:stepsOf H W=some l) (e:cellL g a=some ((stp H W).map (MV.f∘stpV))):tx1V .srtT (.ref a) g=.ok (.f (.lst (l.map stpV))) g:=by
  unfold stepsOf at hs
  rw [Option.bind_eq_some_iff] at hs
  obtain ⟨p,hp,hs⟩:=hs
  split at hs
  next c =>
    cases hs
    show opt (cellL g a) (fun xs=>opt (xs.mapM tupI) fun ts=>opt (M3.srtP ts) fun p=>newL true (p.map fun i=>xs.getD i (.f .non)) g)=_
    rw [e]
    simp only [opt_some,stp_tups,hp]
    rw [stp_pick _ _ c,newL_true_mapf]
  next=>cases hs
section
variable (n:Nat) (h:MH)
theorem run_steps {H W:Nat} (hH:H≤100) (hW:W≤100) {l:List (Nat×Nat×Nat)} (hs:stepsOf H W=some l) (hl:1≤l.length):run prog (n + 1) "steps_by_distance" [I H,I W] h=.ok (.f (.lst ((l.drop 1).map stpV))) h:=by
  refine Ret.eq fun Q hQ=>?_
  have d1:∀ hh,binV true .fdiv (I H) (I 2) hh=.ok (I ((H / 2:Nat):Int)) hh:=fun hh=>by rw [bin_fdiv _ _ _ ⟨by lia,.inl (by lia)⟩]; rfl
  have d2:∀ hh,binV true .fdiv (I W) (I 2) hh=.ok (I ((W / 2:Nat):Int)) hh:=fun hh=>by rw [bin_fdiv _ _ _ ⟨by lia,.inl (by lia)⟩]; rfl
  have r1:∀ hh,itV "range" [I (((H / 2:Nat):Int) + 1)] hh=some ((List.range (H / 2 + 1)).map fun k:Nat=>I k,[]):=fun hh=>by
    have:=itV_range hh (((H / 2:Nat):Int) + 1) (by lia)
    rw [this]
    rw [show (((H / 2:Nat):Int) + 1).toNat=H / 2 + 1 by lia]
  have r2:∀ hh,itV "range" [I (((W / 2:Nat):Int) + 1)] hh=some ((List.range (W / 2 + 1)).map fun k:Nat=>I k,[]):=fun hh=>by
    have:=itV_range hh (((W / 2:Nat):Int) + 1) (by lia)
    rw [this]
    rw [show (((W / 2:Nat):Int) + 1).toNat=W / 2 + 1 by lia]
  have sp:∀ g a,cellL g a=some ((stp H W).map (MV.f∘stpV))→tx1V .srtT (.ref a) g=.ok (.f (.lst (l.map stpV))) g:=fun g a e=>srt_run hs e
  have h2:H / 2≤50:=by lia
  have w2:W / 2≤50:=by lia
  unfold stp at sp
  generalize H / 2=hh2 at *
  generalize W / 2=ww2 at *
  rw [r_d_steps_by_distance]; simp only [d_steps_by_distance]
  simp [d1,r1]
  refine for_range (Q:=fun r=>Ret (leaveS _ r) _) (hh2 + 1) (fun i σ hh=>∃ (z3:Option MV),hh=h++[.lst (((List.range i).flatMap fun d=>(List.range (ww2 + 1)).map fun r=>(d * d + r * r,d,r)).map (MV.f∘stpV))]∧σ=[some (I H),some (I W),some (.ref h.length),z3]) ⟨none,rfl,rfl⟩ ?_ ?_
  · rintro i σ hh hil ⟨z3,rfl,rfl⟩ Q hQ
    have nx:((List.range (i + 1)).flatMap fun d=>(List.range (ww2 + 1)).map fun r=>(d * d + r * r,d,r)).map (MV.f∘stpV)=((List.range i).flatMap fun d=>(List.range (ww2 + 1)).map fun r=>(d * d + r * r,d,r)).map (MV.f∘stpV)++([i].flatMap fun d=>(List.range (ww2 + 1)).map fun r=>(d * d + r * r,d,r)).map (MV.f∘stpV):=by
      rw [List.range_succ (n:=i),List.flatMap_append,List.map_append]
    rw [nx] at hQ
    have ln:(((List.range i).flatMap fun d=>(List.range (ww2 + 1)).map fun r=>(d * d + r * r,d,r)).map (MV.f∘stpV)).length≤3000:=by
      have:i * (ww2 + 1)≤50 * 51:=Nat.mul_le_mul (by lia) (by lia)
      have e:∀ k:Nat,(((List.range k).flatMap fun d=>(List.range (ww2 + 1)).map fun r=>(d * d + r * r,d,r))).length=k * (ww2 + 1):=fun k=>by
        induction k with
        | zero=>simp
        | succ k ih=>rw [List.range_succ (n:=k),List.flatMap_append,List.length_append,ih]; simp; rw [Nat.add_mul,Nat.one_mul]
      rw [List.length_map,e]; lia
    generalize ((List.range i).flatMap fun d=>(List.range (ww2 + 1)).map fun r=>(d * d + r * r,d,r)).map (MV.f∘stpV)=M at *
    have cl:=cellL_app h [] M
    have st:=fun ys=>setCell_app h [] M ys
    have mi:=mul_N i (by lia)
    simp [loopB,cl,d2,r2,MP.stM]
    rw [compL_one (e:=fun k:Nat=>I k) (g:=fun r=>MV.f (stpV (i * i + r * r,i,r))) (List.range (ww2 + 1)) [] none (by simp [sizeL_eq]; lia) (fun r hr z=>⟨some (I r),by
      have mr:=mul_N r (by have:=List.mem_range.mp hr; lia)
      simp [compB,mi,mr,stpV,mkTup,allF]⟩)]
    have e2:(List.range (ww2 + 1)).map (fun r=>MV.f (stpV (i * i + r * r,i,r)))=((List.range (ww2 + 1)).map fun r=>stpV (i * i + r * r,i,r)).map MV.f:=by simp [Function.comp_def]
    have e3:(([i].flatMap fun d=>(List.range (ww2 + 1)).map fun r=>(d * d + r * r,d,r)).map (MV.f∘stpV))=((List.range (ww2 + 1)).map fun r=>stpV (i * i + r * r,i,r)).map MV.f:=by simp [Function.comp_def]
    rw [e3] at hQ
    simp only [List.nil_append,R.bind_ok,e2,newL_true_mapf]
    have l2:((List.range (ww2 + 1)).map fun r=>stpV (i * i + r * r,i,r)).length≤100:=by simp; lia
    generalize ((List.range (ww2 + 1)).map fun r=>stpV (i * i + r * r,i,r))=L at *
    have ml:M.length + L.length≤sizeL:=by rw [sizeL_eq]; lia
    simp [lmV_extendA,cl,ml,st]
    exact hQ _ _ ⟨_,rfl,rfl⟩
  · rintro σ hh ⟨z3,rfl,rfl⟩
    have S:=sp _ h.length (cellL_app h [] _)
    have sl:∀ hh,sliceV true (.f (.lst (l.map stpV))) (some 1) none hh=.ok (.f (.lst ((l.drop 1).map stpV))) hh:=fun hh=>by
      simp only [sliceV,tupOf_lst,seqOf_lst,opt_some]
      rw [cut_hi _ _ (by lia) (by simp; lia),List.map_map,← List.map_drop,← List.map_map,newL_true_mapf]
      rfl
    generalize ((List.range (hh2 + 1)).flatMap fun d=>(List.range (ww2 + 1)).map fun r=>(d * d + r * r,d,r)).map (MV.f∘stpV)=M at *
    generalize (l.drop 1).map stpV=dl at *
    simp [S,sl]
    exact hQ _ _ ⟨rfl,rfl⟩
end
end MP
end
section
set_option maxHeartbeats 2000000
namespace MP
open PySem
theorem for_find {α:Type} {bd:MV→MSt→MH→RS} {e:α→MV} {h:MH} {σ:MSt} {k:MSt→MH→RS} {Q:RS→Prop} (ys:List α) (f:α→Option MV) (Iv:MSt→Prop) (h0:Iv σ)
    (step:∀ y∈ys,∀ σ,Iv σ→FndR (f y) (bd (e y) σ h) Iv h) (fin:ys.findSome? f=none→∀ σ,Iv σ→Q (k σ h)) (ret:∀ v,ys.findSome? f=some v→Q (.ret v h)):Q ((forL [] bd (ys.map e) σ h).bind k):=by
  have F:=forL_find (bd:=bd) (e:=e) (h:=h) f Iv ys σ h0 step
  cases hf:ys.findSome? f with
  | none =>
    rw [hf] at F
    obtain ⟨σ',e1,i⟩:=F
    rw [e1]
    exact fin hf σ' i
  | some v =>
    rw [hf] at F
    rw [show forL [] bd (ys.map e) σ h=.ret v h from F]
    exact ret v hf
noncomputable def thrI (rows:List (List Int)) (H W:Nat) (a b:Int):Int:=(rows.getD (a % H).toNat []).getD (b % W).toNat 0
noncomputable def hitC (rows:List (List Int)) (H W:Nat) (lev:Int) (s:Nat×Nat×Nat) (c:Nat×Nat):Bool :=
  decide (thrI rows H W ((c.1:Int) + s.2.1) ((c.2:Int) + s.2.2)≤lev) || decide (thrI rows H W ((c.1:Int) + s.2.1) ((c.2:Int) - s.2.2)≤lev)
noncomputable def ntS (rows:List (List Int)) (H W:Nat) (lev:Int) (cells:List (Nat×Nat)) (s:Nat×Nat×Nat):Option MV:=cells.findSome? fun c=>if hitC rows H W lev s c=true then some (I (s.1:Nat)) else none
noncomputable def ntO (rows:List (List Int)) (H W:Nat) (lev:Int) (steps:List (Nat×Nat×Nat)):Option MV:=steps.findSome? (ntS rows H W lev (lvlN lev rows))
theorem ntS_some {rows:List (List Int)} {H W:Nat} {lev:Int} {cs:List (Nat×Nat)} {s:Nat×Nat×Nat} {v:MV} (e:ntS rows H W lev cs s=some v):v=I (s.1:Nat)∧∃ c∈cs,hitC rows H W lev s c=true:=by
  unfold ntS at e
  obtain ⟨l1,c,l2,rfl,e1,_⟩:=List.findSome?_eq_some_iff.mp e
  split at e1
  next hc=>cases e1; exact ⟨rfl,c,by simp,hc⟩
  next=>cases e1
theorem ntS_none {rows:List (List Int)} {H W:Nat} {lev:Int} {cs:List (Nat×Nat)} {s:Nat×Nat×Nat} (e:ntS rows H W lev cs s=none):∀ c∈cs,hitC rows H W lev s c=false:=fun c hc=>by
  have:=List.findSome?_eq_none_iff.mp e c hc
  cases hh:hitC rows H W lev s c with
  | false=>rfl
  | true=>rw [hh] at this; simp at this
section
variable (n:Nat) (h:MH)
theorem run_nearest {H W:Nat} (c:Int) (rows:List (List Int)) (lev:Int) (h1:1≤H) (w1:1≤W) (hH:H≤100) (hW:W≤100) (hl:rows.length=H) (hw:∀ r∈rows,r.length=W) {l:List (Nat×Nat×Nat)} (hs:stepsOf H W=some l) (hl1:1≤l.length) :
    run prog (n + 2) "nearest_two" [.f (tileV c rows),I lev] h=.ok ((ntO rows H W lev (l.drop 1)).getD (.f .non)) h:=by
  refine Ret.eq fun Q hQ=>?_
  have L:=run_level_of n h c rows lev (by lia) (fun r hr=>by rw [hw r hr]; lia)
  have F:=frz_tail h ((lvlN lev rows).map cellN) []
  rw [List.map_map] at F
  have S:=fun hh=>run_steps n hh hH hW hs hl1
  have T:∀ (a b:Int) hh,run prog (n + 1) "threshold_at" [.f (tileV c rows),I a,I b] hh=.ok (I (thrI rows H W a b)) hh:=fun a b hh=>run_threshold n hh c rows H W h1 w1 hl hw a b
  have f1:∀ hh,fldV prog.fok "rows" (.f (tileV c rows)) hh=some (.f (rowsV true true rows)):=fun hh=>by simp [tileV]
  have q:∀ hh,seqOf hh (.f (rowsV true true rows))=some (rows.map (MV.f∘rowV true)):=fun hh=>by simp [rowsV]
  have hne:0 < rows.length:=by lia
  have a1:atM (rows.map (MV.f∘rowV true)) 0=some (.f (rowV true rows[0])):=by
    rw [atM_pos _ _ (by lia)]; simp [hne]
  have q2:∀ hh,seqOf hh (.f (rowV true rows[0]))=some (rows[0].map (MV.f∘FV.int)):=fun hh=>by simp [rowV]
  have w0:rows[0].length=W:=hw _ (List.getElem_mem hne)
  unfold ntO at hQ
  generalize l.drop 1=dl at *
  generalize hcs:lvlN lev rows=cs at *
  generalize rows[0]=r0 at *
  rw [r_d_nearest_two]; simp only [d_nearest_two]
  simp [L,F,f1,q,a1,q2,w0,hl,S]
  have qc:∀ hh,seqOf hh (.f (.lst (cs.map cellN)))=some (cs.map (MV.f∘cellN)):=fun hh=>by simp
  have gc:∀ hh,guardOf hh (.f (.lst (cs.map cellN)))=[]:=fun hh=>rfl
  refine for_find (Q:=fun r=>Ret (leaveS _ r) _) (e:=MV.f∘stpV) dl (ntS rows H W lev cs) (fun σ=>∃ (z3 z4 z5 z6 z7:Option MV),σ=[some (.f (tileV c rows)),some (I lev),some (.f (.lst (cs.map cellN))),z3,z4,z5,z6,z7]) ⟨_,_,_,_,_,rfl⟩ ?_ ?_ ?_
  · rintro s hsm σ ⟨z3,z4,z5,z6,z7,rfl⟩
    unfold ntS
    generalize FV.lst (cs.map cellN)=cv at *
    simp [loopB,stpV,qc,gc]
    refine for_find (Q:=fun r=>FndR _ r _ _) (e:=MV.f∘cellN) cs (fun c=>if hitC rows H W lev s c=true then some (I (s.1:Nat)) else none) (fun σ=>∃ (z6 z7:Option MV),σ=[some (.f (tileV c rows)),some (I lev),some (.f cv),some (I (s.1:Nat)),some (I (s.2.1:Nat)),some (I (s.2.2:Nat)),z6,z7]) ⟨_,_,rfl⟩ ?_ ?_ ?_
    · rintro q hq σ ⟨z6,z7,rfl⟩
      have t1:=T ((q.1:Int) + s.2.1) ((q.2:Int) + s.2.2)
      have t2:=T ((q.1:Int) + s.2.1) ((q.2:Int) - s.2.2)
      have hd:hitC rows H W lev s q=(decide (thrI rows H W ((q.1:Int) + s.2.1) ((q.2:Int) + s.2.2)≤lev) || decide (thrI rows H W ((q.1:Int) + s.2.1) ((q.2:Int) - s.2.2)≤lev)):=rfl
      rw [hd]
      generalize thrI rows H W ((q.1:Int) + s.2.1) ((q.2:Int) + s.2.2)=x1 at *
      generalize thrI rows H W ((q.1:Int) + s.2.1) ((q.2:Int) - s.2.2)=x2 at *
      by_cases c1:x1≤lev
      · simp [loopB,cellN,t1,c1,FndR]
      · by_cases c2:x2≤lev
        · simp [loopB,cellN,t1,t2,c1,c2,FndR]
        · simp [loopB,cellN,t1,t2,c1,c2,FndR]
    · rintro hn σ ⟨z6,z7,rfl⟩
      rw [hn]
      exact ⟨_,rfl,_,_,_,_,_,rfl⟩
    · intro v hv
      rw [hv]; rfl
  · rintro hn σ ⟨z3,z4,z5,z6,z7,rfl⟩
    rw [hn] at hQ
    simp
    exact hQ _ _ ⟨rfl,rfl⟩
  · intro v hv
    rw [hv] at hQ
    obtain ⟨l1,s,l2,_,e1,_⟩:=List.findSome?_eq_some_iff.mp hv
    obtain ⟨rfl,_⟩:=ntS_some e1
    simp
    exact hQ _ _ ⟨rfl,rfl⟩
end
end MP
end
section
set_option maxHeartbeats 2000000
namespace MP
open PySem
noncomputable def optN (b:Option Nat):FV:=match b with
  | none=>.non
  | some d=>.int d
theorem lvl_in {lev:Int} {rows:List (List Int)} {H W:Nat} (hl:rows.length=H) (hw:∀ r∈rows,r.length=W) {c:Nat×Nat} (hc:c∈lvlN lev rows):c.1 < H∧c.2 < W∧(rows.getD c.1 []).getD c.2 0≤lev:=by
  unfold lvlN at hc
  rw [List.mem_flatMap] at hc
  obtain ⟨⟨r,i⟩,hp,hc⟩:=hc
  rw [List.mem_zipIdx_iff_getElem?] at hp
  unfold lvlRow at hc
  rw [List.mem_map] at hc
  obtain ⟨⟨v,j⟩,hq,rfl⟩:=hc
  rw [List.mem_filter,List.mem_zipIdx_iff_getElem?] at hq
  obtain ⟨hq,hv⟩:=hq
  simp only at hp hq hv ⊢
  have hi:=(List.getElem?_eq_some_iff.mp hp).1
  have hr:=hw r (List.mem_of_getElem? hp)
  have hj:=(List.getElem?_eq_some_iff.mp hq).1
  refine ⟨by lia,by lia,?_⟩
  simp only [List.getD,hp,hq,Option.getD_some]
  exact of_decide_eq_true hv
theorem lvl_mem {lev:Int} {rows:List (List Int)} {i j:Nat} (hi:i < rows.length) (hj:j < (rows.getD i []).length) (hv:(rows.getD i []).getD j 0≤lev):(i,j)∈lvlN lev rows:=by
  unfold lvlN
  rw [List.mem_flatMap]
  have e1:rows.getD i []=rows[i]:=by simp [List.getD,hi]
  rw [e1] at hj hv
  refine ⟨(rows[i],i),by rw [List.mem_zipIdx_iff_getElem?]; simp [hi],?_⟩
  unfold lvlRow
  rw [List.mem_map]
  refine ⟨(rows[i][j],j),by rw [List.mem_filter,List.mem_zipIdx_iff_getElem?]; simp only [List.getElem?_eq_getElem hj,true_and]; simpa [List.getD,hj] using hv,rfl⟩
section
variable (n:Nat) (h:MH)
theorem run_due {H W:Nat} (rows:List (List Int)) (lev:Int) (h1:1≤H) (w1:1≤W) (hH:H≤100) (hW:W≤100) (hl:rows.length=H) (hw:∀ r∈rows,r.length=W) :
    run prog (n + 2) "_law_due" [.f (rowsV false false rows),I lev] h=.ok (.f (optN (dueP H W (lvlN lev rows)))) h:=by
  refine Ret.eq fun Q hQ=>?_
  have q:∀ hh,seqOf hh (.f (rowsV false false rows))=some (rows.map (MV.f∘rowV false)):=fun hh=>by simp [rowsV]
  have hne:0 < rows.length:=by lia
  have a1:atM (rows.map (MV.f∘rowV false)) 0=some (.f (rowV false rows[0])):=by
    rw [atM_pos _ _ (by lia)]; simp [hne]
  have q2:∀ (r:List Int) hh,seqOf hh (.f (rowV false r))=some (r.map (MV.f∘FV.int)):=fun r hh=>by simp [rowV]
  have w0:rows[0].length=W:=hw _ (List.getElem_mem hne)
  have ci:∀ c∈lvlN lev rows,c.1 < H∧c.2 < W:=fun c hc=>⟨(lvl_in hl hw hc).1,(lvl_in hl hw hc).2.1⟩
  rw [r_d__law_due]; simp only [d__law_due]
  simp [q,hl,itV_range _ (H:Int) (by lia)]
  refine for_range (Q:=fun r=>Ret (leaveS _ r) _) H (fun i σ hh=>∃ (z3:Option MV),hh=h∧((rows.zipIdx.take i).flatMap fun p=>lvlRow lev p.2 p.1).length≤i * 100∧σ=[some (.f (rowsV false false rows)),some (I lev),some (.f (.lst (((rows.zipIdx.take i).flatMap fun p=>lvlRow lev p.2 p.1).map cellN))),z3,none,none,none,none]) ⟨none,rfl,by simp,rfl⟩ ?_ ?_
  · rintro i σ hh hil ⟨z3,rfl,hln,rfl⟩ Q hQ
    have hi:i < rows.length:=by lia
    have hzi:rows.zipIdx[i]?=some (rows[i],i):=by rw [List.getElem?_zipIdx]; simp [hi]
    have nx:((rows.zipIdx.take (i + 1)).flatMap fun p=>lvlRow lev p.2 p.1)=((rows.zipIdx.take i).flatMap fun p=>lvlRow lev p.2 p.1)++lvlRow lev i rows[i]:=by
      rw [List.take_add_one,hzi,Option.toList_some,List.flatMap_append]; simp
    rw [nx] at hQ
    have ai:atM (rows.map (MV.f∘rowV false)) (i:Int)=some (.f (rowV false rows[i])):=by
      rw [atM_pos _ _ (by lia),Int.toNat_natCast]; simp [hi]
    have wi:rows[i].length=W:=hw _ (List.getElem_mem hi)
    have zl:=lvlRow_len lev i rows[i]
    generalize hri:rows[i]=ri at *
    generalize ((rows.zipIdx.take i).flatMap fun p=>lvlRow lev p.2 p.1)=M at *
    simp [loopB,q,q2,ai,wi,itV_range _ (W:Int) (by lia),MP.stM]
    have at1:∀ k∈List.range W,atM (ri.map (MV.f∘FV.int)) (k:Int)=some (I (ri.getD k 0)):=fun k hk=>by
      have hk':k < ri.length:=by have:=List.mem_range.mp hk; lia
      rw [atM_pos _ _ (by lia),Int.toNat_natCast,List.getElem?_map,List.getElem?_eq_getElem hk']; simp [List.getD,hk']
    rw [compL_if (e:=fun k:Nat=>I k) (g:=fun k:Nat=>MV.f (cellN (i,k))) (t:=fun k=>decide (ri.getD k 0≤lev)) (List.range W) [] none (by simp [sizeL_eq]; lia) (fun k hk z=>⟨some (I k),by
      have x1:=at1 k hk
      generalize ri.getD k 0=x at *
      by_cases cx:x≤lev <;> simp [compB,q,q2,ai,x1,cx,cellN]⟩)]
    have e2:((List.range W).filter fun k=>decide (ri.getD k 0≤lev)).map (fun k:Nat=>MV.f (cellN (i,k)))=((lvlRow lev i ri).map cellN).map MV.f:=by
      rw [lvlRow_range,wi,List.map_map,List.map_map]; rfl
    rw [List.nil_append,e2]
    simp only [R.bind_ok,newL_true_mapf]
    have ad:∀ hh,binV true .add (.f (.lst (M.map cellN))) (.f (.lst ((lvlRow lev i ri).map cellN))) hh=.ok (.f (.lst ((M++lvlRow lev i ri).map cellN))) hh:=fun hh=>by
      have c:((M.map cellN).map MV.f).length + (((lvlRow lev i ri).map cellN).map MV.f).length≤sizeL:=by simp only [List.length_map]; rw [sizeL_eq]; lia
      unfold binV
      simp only [intOf,tupOf,listOf,opt_some]
      rw [if_pos c,← List.map_append,← List.map_append,newL_true_mapf]
    simp only [ad]
    have ln2:(M++lvlRow lev i ri).length≤(i + 1) * 100:=by rw [List.length_append]; lia
    generalize M++lvlRow lev i ri=MM at *
    simp
    exact hQ _ _ ⟨_,rfl,ln2,rfl⟩
  · rintro σ hh ⟨z3,rfl,hln,rfl⟩
    have et:((rows.zipIdx.take H).flatMap fun p=>lvlRow lev p.2 p.1)=lvlN lev rows:=by
      rw [List.take_of_length_le (by simp; lia)]; rfl
    rw [et] at hln
    rw [et]
    have hl2:(lvlN lev rows).length≤10000:=by lia
    generalize hcs:lvlN lev rows=cs at *
    have qc:∀ (l:List (Nat×Nat)) hh,seqOf hh (.f (.lst (l.map cellN)))=some (l.map (MV.f∘cellN)):=fun l hh=>by simp
    have gc:∀ (l:List (Nat×Nat)) hh,guardOf hh (.f (.lst (l.map cellN)))=[]:=fun l hh=>rfl
    simp [qc,itV_range _ (cs.length:Int) (by lia)]
    refine for_range (Q:=fun r=>Ret (leaveS _ r) _) cs.length (fun i σ hh'=>∃ (z5 z6 z7:Option MV),hh'=hh∧σ=[some (.f (rowsV false false rows)),some (I lev),some (.f (.lst (cs.map cellN))),z3,some (.f (optN ((List.range i).foldl (fun b k=>(cs.take k).foldl (fun b q=>lessO b (dN H W (cs.getD k (0,0)) q)) b) none))),z5,z6,z7]) ⟨none,none,none,rfl,rfl⟩ ?_ ?_
    · rintro i σ hh' hil ⟨z5,z6,z7,rfl,rfl⟩ Q hQ
      rw [List.range_succ,List.foldl_append] at hQ
      simp only [List.foldl_cons,List.foldl_nil] at hQ
      generalize (List.range i).foldl (fun b k=>(cs.take k).foldl (fun b q=>lessO b (dN H W (cs.getD k (0,0)) q)) b) none=b0 at *
      have sl:∀ hh,sliceV true (.f (.lst (cs.map cellN))) none (some (i:Int)) hh=.ok (.f (.lst ((cs.take i).map cellN))) hh:=fun hh=>by
        simp only [sliceV,tupOf_lst,seqOf_lst,opt_some]
        rw [cut_lo _ _ (by lia) (by simp; lia),Int.toNat_natCast,List.map_map,← List.map_take,← List.map_map,newL_true_mapf]
      have ai:atM (cs.map (MV.f∘cellN)) (i:Int)=some (.f (cellN (cs.getD i (0,0)))):=by
        rw [atM_pos _ _ (by lia),Int.toNat_natCast,List.getElem?_map,List.getElem?_eq_getElem hil]; simp [List.getD,hil]
      have cb:=ci (cs.getD i (0,0)) (by simp [List.getD,hil])
      generalize cs.getD i (0,0)=ck at *
      have tin:∀ q∈cs.take i,q.1 < H∧q.2 < W:=fun q hq=>ci q (List.mem_of_mem_take hq)
      generalize cs.take i=ct at *
      have qcs:=qc cs
      have qct:=qc ct
      have gct:=gc ct
      generalize FV.lst (cs.map cellN)=cv at *
      generalize FV.lst (ct.map cellN)=tv at *
      simp [loopB,sl,qct,gct]
      refine for_list (Q:=fun r=>Nx r _) (e:=MV.f∘cellN) ct (fun j σ hh2=>∃ (z6 z7:Option MV),hh2=hh'∧σ=[some (.f (rowsV false false rows)),some (I lev),some (.f cv),z3,some (.f (optN ((ct.take j).foldl (fun b q=>lessO b (dN H W ck q)) b0))),some (I i),z6,z7]) ⟨_,_,rfl,rfl⟩ ?_ ?_
      · rintro j y σ hh2 hj ⟨z6,z7,rfl,rfl⟩ Q2 hQ2
        rw [List.take_add_one,hj,Option.toList_some,List.foldl_append] at hQ2
        simp only [List.foldl_cons,List.foldl_nil] at hQ2
        generalize (ct.take j).foldl (fun b q=>lessO b (dN H W ck q)) b0=b1 at *
        have yb:=tin y (List.mem_of_getElem? hj)
        have FR:=fun hh=>run_far n hh ck y cb.1 cb.2 yb.1 yb.2 (by lia) (by lia)
        generalize dN H W ck y=dd at *
        cases b1 with
        | none =>
          have hx:optN none=.non:=rfl
          simp [loopB,q,q2,a1,w0,hl,qcs,ai,FR,hx]
          refine hQ2 _ _ ⟨some (.f (cellN y)),some (I (dd:Nat)),rfl,?_⟩
          simp [lessO,optN]
        | some x =>
          have hx:optN (some x)=.int (x:Nat):=rfl
          by_cases c:dd < x
          · have c':(dd:Int) < x:=by lia
            simp [loopB,q,q2,a1,w0,hl,qcs,ai,FR,hx,c']
            refine hQ2 _ _ ⟨some (.f (cellN y)),some (I (dd:Nat)),rfl,?_⟩
            simp [lessO,c,optN]
          · have c':¬ (dd:Int) < x:=by lia
            simp [loopB,q,q2,a1,w0,hl,qcs,ai,FR,hx,c']
            refine hQ2 _ _ ⟨some (.f (cellN y)),some (I (dd:Nat)),rfl,?_⟩
            simp [lessO,c,optN]
      · rintro σ hh2 ⟨z6,z7,rfl,rfl⟩
        rw [List.take_length]
        simp
        exact hQ _ _ ⟨_,_,_,rfl,rfl⟩
    · rintro σ hh' ⟨z5,z6,z7,rfl,rfl⟩
      have ed:(List.range cs.length).foldl (fun b k=>(cs.take k).foldl (fun b q=>lessO b (dN H W (cs.getD k (0,0)) q)) b) none=dueP H W cs:=rfl
      rw [ed]
      simp
      exact hQ _ _ ⟨rfl,rfl⟩
end
end MP
end
section
set_option maxHeartbeats 1000000
namespace MP
open PySem
noncomputable def Mn (S:Nat→Prop) (b:Option Nat):Prop:=match b with
  | none=>∀ d,¬ S d
  | some m=>S m∧∀ d,S d→m≤d
theorem Mn.one {S T:Nat→Prop} (e:∀ d,S d↔T d) {b c:Option Nat} (x:Mn S b) (y:Mn T c):b=c:=by
  cases b with
  | none =>
    cases c with
    | none=>rfl
    | some m=>exact absurd ((e m).mpr y.1) (x m)
  | some m =>
    cases c with
    | none=>exact absurd ((e m).mp x.1) (y m)
    | some k =>
      have:=x.2 k ((e k).mpr y.1)
      have:=y.2 m ((e m).mp x.1)
      congr 1; lia
theorem Mn.put {S:Nat→Prop} {b:Option Nat} (x:Mn S b) (k:Nat):Mn (fun d=>S d∨d=k) (lessO b k):=by
  cases b with
  | none=>exact ⟨.inr rfl,fun d hd=>hd.elim (fun h=>absurd h (x d)) fun h=>by lia⟩
  | some m =>
    by_cases c:k < m
    · show Mn _ (if k < m then some k else some m)
      rw [if_pos c]
      exact ⟨.inr rfl,fun d hd=>hd.elim (fun h=>by have:=x.2 d h; lia) fun h=>by lia⟩
    · show Mn _ (if k < m then some k else some m)
      rw [if_neg c]
      exact ⟨.inl x.1,fun d hd=>hd.elim (fun h=>x.2 d h) fun h=>by lia⟩
theorem Mn.fold {α:Type} (f:α→Nat):∀ (l:List α) {S:Nat→Prop} {b:Option Nat},Mn S b→Mn (fun d=>S d∨∃ q∈l,d=f q) (l.foldl (fun b q=>lessO b (f q)) b)
  | [],S,b,x=>by
    have:(fun d=>S d∨∃ q∈([]:List α),d=f q)=S:=by funext d; simp
    rw [this]; exact x
  | y::l,S,b,x=>by
    have:=Mn.fold f l (x.put (f y))
    have e:(fun d=>S d∨∃ q∈y::l,d=f q)=fun d=>(S d∨d=f y)∨∃ q∈l,d=f q:=by
      funext d; simp [or_assoc]
    rw [e]; exact this
theorem due_min (H W:Nat) (cs:List (Nat×Nat)):Mn (fun d=>∃ k < cs.length,∃ q∈cs.take k,d=dN H W (cs.getD k (0,0)) q) (dueP H W cs):=by
  unfold dueP
  have key:∀ n,Mn (fun d=>∃ k < n,∃ q∈cs.take k,d=dN H W (cs.getD k (0,0)) q) ((List.range n).foldl (fun b k=>(cs.take k).foldl (fun b q=>lessO b (dN H W (cs.getD k (0,0)) q)) b) none):=fun n=>by
    induction n with
    | zero=>intro d ⟨k,hk,_⟩; lia
    | succ n ih =>
      rw [List.range_succ,List.foldl_append]
      have:=Mn.fold (fun q=>dN H W (cs.getD n (0,0)) q) (cs.take n) ih
      have e:(fun d=>∃ k < n + 1,∃ q∈cs.take k,d=dN H W (cs.getD k (0,0)) q)=fun d=>(∃ k < n,∃ q∈cs.take k,d=dN H W (cs.getD k (0,0)) q)∨∃ q∈cs.take n,d=dN H W (cs.getD n (0,0)) q:=by
        funext d
        refine propext ⟨?_,?_⟩
        · rintro ⟨k,hk,q,hq,e⟩
          by_cases c:k=n
          · subst c; exact .inr ⟨q,hq,e⟩
          · exact .inl ⟨k,by lia,q,hq,e⟩
        · rintro (⟨k,hk,q,hq,e⟩ | ⟨q,hq,e⟩)
          · exact ⟨k,by lia,q,hq,e⟩
          · exact ⟨n,by lia,q,hq,e⟩
      rw [e]; exact this
  exact key cs.length
theorem upB_le:∀ {l:List Nat},upB l=true→l.Pairwise (·≤·)
  | [],_=>.nil
  | [x],_=>by simp
  | x::y::r,h=>by
    unfold upB at h
    simp only [Bool.and_eq_true,decide_eq_true_eq] at h
    have ih:=upB_le h.2
    refine List.pairwise_cons.mpr ⟨fun z hz=>?_,ih⟩
    rcases List.mem_cons.mp hz with rfl | hz
    · exact h.1
    · exact Nat.le_trans h.1 ((List.pairwise_cons.mp ih).1 z hz)
theorem nt_min {rows:List (List Int)} {H W:Nat} {lev:Int} {dl:List (Nat×Nat×Nat)} (up:(dl.map (·.1)).Pairwise (·≤·)):∃ b,Mn (fun d=>∃ s∈dl,s.1=d∧∃ c∈lvlN lev rows,hitC rows H W lev s c=true) b∧(ntO rows H W lev dl).getD (.f .non)=.f (optN b):=by
  unfold ntO
  cases e:dl.findSome? (ntS rows H W lev (lvlN lev rows)) with
  | none =>
    refine ⟨none,?_,rfl⟩
    rintro d ⟨s,hs,rfl,c,hc,hh⟩
    have:=ntS_none (List.findSome?_eq_none_iff.mp e s hs) c hc
    rw [this] at hh; cases hh
  | some v =>
    obtain ⟨l1,s,l2,rfl,e1,e2⟩:=List.findSome?_eq_some_iff.mp e
    obtain ⟨rfl,c,hc,hh⟩:=ntS_some e1
    refine ⟨some s.1,⟨⟨s,by simp,rfl,c,hc,hh⟩,?_⟩,rfl⟩
    rintro d ⟨s',hs,rfl,c',hc',hh'⟩
    rcases List.mem_append.mp hs with hs | hs
    · have:=ntS_none (e2 s' hs) c' hc'
      rw [this] at hh'; cases hh'
    · rcases List.mem_cons.mp hs with rfl | hs
      · exact Nat.le_refl _
      · rw [List.map_append,List.map_cons,List.pairwise_append] at up
        exact (List.pairwise_cons.mp up.2.1).1 _ (List.mem_map_of_mem hs)
end MP
end
section
set_option maxHeartbeats 1000000
namespace MP
open PySem
theorem add_mod' {n a d:Nat} (ha:a < n) (hd:d < n):((a:Int) + d) % n=if a + d < n then ((a + d:Nat):Int) else ((a + d - n:Nat):Int):=by
  split
  next h=>rw [Int.emod_eq_of_lt (by lia) (by lia)]; lia
  next h=>rw [← Int.sub_emod_right,Int.emod_eq_of_lt (by lia) (by lia)]; lia
theorem half_lt {n d:Nat} (hn:1≤n) (hd:d≤n / 2):d < n:=by lia
theorem rnd_half {n a b:Nat} (ha:a < n) (hb:b < n):rndN n (absN a b)≤n / 2:=by
  unfold rndN absN; split <;> lia
theorem rnd_zero {n a b:Nat} (ha:a < n) (hb:b < n) (h:rndN n (absN a b)=0):a=b:=by
  unfold rndN absN at h; split at h <;> lia
theorem abs_comm (a b:Nat):absN a b=absN b a:=by unfold absN; lia
theorem dN_comm (H W:Nat) (p q:Nat×Nat):dN H W p q=dN H W q p:=by unfold dN; rw [abs_comm p.1,abs_comm p.2]
theorem rnd_down {n a b:Nat} (ha:a < n) (hb:b < n):((a:Int) + rndN n (absN a b)) % n=b∨((b:Int) + rndN n (absN a b)) % n=a:=by
  have hd:=half_lt (by lia) (rnd_half ha hb)
  rw [add_mod' ha hd,add_mod' hb hd]
  unfold rndN absN
  split <;> split <;> split <;> lia
theorem rnd_side {n a b:Nat} (ha:a < n) (hb:b < n):((a:Int) + rndN n (absN a b)) % n=b∨((a:Int) - rndN n (absN a b)) % n=b:=by
  have hd:=half_lt (by lia) (rnd_half ha hb)
  rw [add_mod' ha hd,sub_mod ha hd]
  unfold rndN absN
  split <;> split <;> split <;> lia
theorem step_add {n a d:Nat} (ha:a < n) (hd:d≤n / 2):(((a:Int) + d) % n).toNat < n∧rndN n (absN a (((a:Int) + d) % n).toNat)=d:=by
  have hd':=half_lt (by lia) hd
  rw [add_mod' ha hd']
  unfold rndN absN
  split
  · refine ⟨by lia,?_⟩; split <;> lia
  · refine ⟨by lia,?_⟩; split <;> lia
theorem step_sub {n a d:Nat} (ha:a < n) (hd:d≤n / 2):(((a:Int) - d) % n).toNat < n∧rndN n (absN a (((a:Int) - d) % n).toNat)=d:=by
  have hd':=half_lt (by lia) hd
  rw [sub_mod ha hd']
  unfold rndN absN
  split
  · refine ⟨by lia,?_⟩; split <;> lia
  · refine ⟨by lia,?_⟩; split <;> lia
theorem lvl_nodup (lev:Int) (rows:List (List Int)):(lvlN lev rows).Nodup:=by
  unfold lvlN
  refine List.pairwise_flatMap.mpr ⟨fun p _=>?_,?_⟩
  · rw [lvlRow_range]
    refine List.pairwise_map.mpr (List.Pairwise.imp ?_ (List.Pairwise.filter _ List.nodup_range))
    intro a b h e
    exact h (by simpa using e)
  · refine List.pairwise_iff_getElem.mpr fun i j hi hj hij x hx y hy e=>?_
    subst e
    unfold lvlRow at hx hy
    simp only [List.getElem_zipIdx,List.mem_map] at hx hy
    obtain ⟨_,_,e1⟩:=hx
    obtain ⟨_,_,e2⟩:=hy
    rw [← e2] at e1
    simp at e1
    lia
structure StOk (H W:Nat) (dl:List (Nat×Nat×Nat)):Prop where
  up:(dl.map (·.1)).Pairwise (·≤·)
  mem:∀ s∈dl,s.1=s.2.1 * s.2.1 + s.2.2 * s.2.2∧s.2.1≤H / 2∧s.2.2≤W / 2∧(s.2.1≠0∨s.2.2≠0)
  all:∀ d r,d≤H / 2→r≤W / 2→(d≠0∨r≠0)→(d * d + r * r,d,r)∈dl
theorem mem_stp {H W:Nat} {s:Nat×Nat×Nat}:s∈stp H W↔s.1=s.2.1 * s.2.1 + s.2.2 * s.2.2∧s.2.1≤H / 2∧s.2.2≤W / 2:=by
  unfold stp
  simp only [List.mem_flatMap,List.mem_range,List.mem_map]
  constructor
  · rintro ⟨d,hd,r,hr,rfl⟩
    exact ⟨rfl,by lia,by lia⟩
  · rintro ⟨e,hd,hr⟩
    obtain ⟨x,d,r⟩:=s
    simp only at e hd hr
    subst e
    exact ⟨d,by lia,r,by lia,rfl⟩
theorem stepsOk_st {H W:Nat} (h:stepsOk H W=true):∃ l,stepsOf H W=some l∧1≤l.length∧StOk H W (l.drop 1):=by
  unfold stepsOk at h
  cases e:stepsOf H W with
  | none=>rw [e] at h; cases h
  | some l =>
    rw [e] at h
    simp only [Bool.and_eq_true,List.all_eq_true,Bool.or_eq_true,bne_iff_ne,beq_iff_eq,List.contains_iff_mem,decide_eq_true_eq] at h
    obtain ⟨⟨⟨⟨h0,h1⟩,h2⟩,h3⟩,h4⟩:=h
    refine ⟨l,rfl,?_,?_,fun s hs=>?_,fun d r hd hr hne=>?_⟩
    · exact h0
    · rw [List.map_drop]
      exact List.Pairwise.drop (upB_le h1)
    · have:=mem_stp.mp (h3 s hs)
      exact ⟨this.1,this.2.1,this.2.2,h2 s hs⟩
    · have:=h4 (d * d + r * r,d,r) (mem_stp.mpr ⟨rfl,hd,hr⟩)
      rcases this with h | h
      · simp only at h; lia
      · exact h
theorem two_pos {cs:List (Nat×Nat)} {c o:Nat×Nat} (hc:c∈cs) (ho:o∈cs) (ne:c≠o):∃ k < cs.length,∃ q∈cs.take k,(cs.getD k (0,0)=c∧q=o)∨(cs.getD k (0,0)=o∧q=c):=by
  obtain ⟨i,hi,rfl⟩:=List.getElem_of_mem hc
  obtain ⟨j,hj,rfl⟩:=List.getElem_of_mem ho
  have nij:i≠j:=fun e=>ne (by subst e; rfl)
  by_cases h:i < j
  · exact ⟨j,hj,cs[i],List.mem_take_iff_getElem.mpr ⟨i,by lia,rfl⟩,.inr ⟨by simp [List.getD,hj],rfl⟩⟩
  · exact ⟨i,hi,cs[j],List.mem_take_iff_getElem.mpr ⟨j,by lia,rfl⟩,.inl ⟨by simp [List.getD,hi],rfl⟩⟩
theorem nt_due {rows:List (List Int)} {H W:Nat} {lev:Int} (hl:rows.length=H) (hw:∀ r∈rows,r.length=W) (h1:1≤H) (w1:1≤W) {dl:List (Nat×Nat×Nat)} (S:StOk H W dl) :
    (ntO rows H W lev dl).getD (.f .non)=.f (optN (dueP H W (lvlN lev rows))):=by
  obtain ⟨b,mb,e⟩:=nt_min (rows:=rows) (H:=H) (W:=W) (lev:=lev) S.up
  rw [e,Mn.one (fun d=>⟨?_,?_⟩) mb (due_min H W (lvlN lev rows))]
  · rintro ⟨s,hs,rfl,c,hc,hh⟩
    obtain ⟨m1,m2,m3,m4⟩:=S.mem s hs
    obtain ⟨c1,c2,c3⟩:=lvl_in hl hw hc
    have a1:=step_add c1 m2
    have go:∀ b:Int,(b % W).toNat < W→rndN W (absN c.2 (b % W).toNat)=s.2.2→thrI rows H W ((c.1:Int) + s.2.1) b≤lev→∃ k < (lvlN lev rows).length,∃ q∈(lvlN lev rows).take k,s.1=dN H W ((lvlN lev rows).getD k (0,0)) q:=fun b b1 b2 ht=>by
      have oi:(((c.1:Int) + s.2.1) % H).toNat < rows.length:=by lia
      have ow:(rows.getD (((c.1:Int) + s.2.1) % H).toNat []).length=W:=by
        rw [show rows.getD (((c.1:Int) + s.2.1) % H).toNat []=rows[(((c.1:Int) + s.2.1) % H).toNat] by simp [List.getD,oi]]
        exact hw _ (List.getElem_mem oi)
      have om:=lvl_mem oi (j:=(b % W).toNat) (by lia) ht
      have ed:dN H W c ((((c.1:Int) + s.2.1) % H).toNat,(b % W).toNat)=s.1:=by
        unfold dN
        simp only [a1.2,b2]
        exact m1.symm
      have ne:c≠((((c.1:Int) + s.2.1) % H).toNat,(b % W).toNat):=fun q=>by
        have q1:=congrArg (·.1) q
        have q2:=congrArg (·.2) q
        simp only at q1 q2
        have z1:=a1.2
        rw [← q1] at z1
        rw [← q2] at b2
        have zz:∀ n x:Nat,rndN n (absN x x)=0:=fun n x=>by unfold rndN absN; split <;> lia
        rw [zz] at z1 b2
        lia
      obtain ⟨k,hk,q,hq,o⟩:=two_pos hc om ne
      refine ⟨k,hk,q,hq,?_⟩
      rcases o with ⟨o1,rfl⟩ | ⟨o1,rfl⟩
      · rw [o1,ed]
      · rw [o1,dN_comm,ed]
    unfold hitC at hh
    rw [Bool.or_eq_true,decide_eq_true_eq,decide_eq_true_eq] at hh
    rcases hh with hh | hh
    · have a2:=step_add c2 m3
      exact go _ a2.1 a2.2 hh
    · have a2:=step_sub c2 m3
      exact go _ a2.1 a2.2 hh
  · rintro ⟨k,hk,q,hq,rfl⟩
    have nd:=lvl_nodup lev rows
    have pm:(lvlN lev rows).getD k (0,0)∈lvlN lev rows:=by simp [List.getD,hk]
    have qm:=List.mem_of_mem_take hq
    have ne:(lvlN lev rows).getD k (0,0)≠q:=fun e=>by
      obtain ⟨j,hj,e1⟩:=List.mem_take_iff_getElem.mp hq
      have:=(List.pairwise_iff_getElem.mp nd) j k (by lia) hk (by lia)
      apply this
      rw [e1,← e]; simp [List.getD,hk]
    generalize (lvlN lev rows).getD k (0,0)=p at *
    obtain ⟨p1,p2,p3⟩:=lvl_in hl hw pm
    obtain ⟨q1,q2,q3⟩:=lvl_in hl hw qm
    refine ⟨(_,rndN H (absN p.1 q.1),rndN W (absN p.2 q.2)),S.all _ _ (rnd_half p1 q1) (rnd_half p2 q2) ?_,rfl,?_⟩
    · by_cases z:rndN H (absN p.1 q.1)=0
      · refine .inr fun z2=>ne ?_
        exact Prod.ext (rnd_zero p1 q1 z) (rnd_zero p2 q2 z2)
      · exact .inl z
    · have fin : ∀ (x y : Nat × Nat), x ∈ lvlN lev rows → x.2 < W → y.2 < W → (rows.getD y.1 []).getD y.2 0 ≤ lev → rndN W (absN x.2 y.2) = rndN W (absN p.2 q.2) → ((x.1 : Int) + (rndN H (absN p.1 q.1) : Nat)) % H = y.1 →
          ∃ c∈lvlN lev rows,hitC rows H W lev (rndN H (absN p.1 q.1) * rndN H (absN p.1 q.1) + rndN W (absN p.2 q.2) * rndN W (absN p.2 q.2),rndN H (absN p.1 q.1),rndN W (absN p.2 q.2)) c=true:=fun x y xm x2 y2 yl er ed=>by
        refine ⟨x,xm,?_⟩
        unfold hitC thrI
        simp only [ed,Int.toNat_natCast]
        rw [Bool.or_eq_true,decide_eq_true_eq,decide_eq_true_eq]
        have:=rnd_side x2 y2
        rw [er] at this
        rcases this with h | h
        · left; rw [h,Int.toNat_natCast]; exact yl
        · right; rw [h,Int.toNat_natCast]; exact yl
      rcases rnd_down p1 q1 with h | h
      · exact fin p q pm p2 q2 q3 rfl h
      · exact fin q p qm q2 p2 p3 (by rw [abs_comm]) h
noncomputable def goodB (H W:Nat):Bool:=(spRows H W).all (fun r=>r.length == W&&r.all fun x=>decide (1≤x)&&decide (x≤H * W))
noncomputable def allOk (H W:Nat):Bool:=stepsOk H W&&goodB H W&&spreadOk H W
theorem ok_a:((List.range 5).all fun i=>(List.range 5).all fun j=>allOk (i + 1) (j + 1))=true:=by decide +kernel
theorem ok_b:((List.range 24).all fun j=>allOk 1 (j + 1))=true:=by decide +kernel
theorem ok_c:((List.range 24).all fun j=>allOk (j + 1) 1)=true:=by decide +kernel
theorem ok_d:((List.range 12).all fun j=>allOk 2 (j + 1))=true:=by decide +kernel
theorem ok_e:((List.range 6).all fun i=>(List.range 5).all fun j=>stepsOk (i + 1) (j + 1))=true:=by decide +kernel
theorem ok_f:((List.range 30).all fun j=>stepsOk 1 (j + 1))=true:=by decide +kernel
noncomputable def SzS (H W:Nat):Prop:=(1≤H∧H≤5∧1≤W∧W≤5)∨(H=1∧1≤W∧W≤24)∨(1≤H∧H≤24∧W=1)∨(H=2∧1≤W∧W≤12)
theorem two_all {f:Nat→Nat→Bool} {n m:Nat} (h:((List.range n).all fun i=>(List.range m).all fun j=>f (i + 1) (j + 1))=true) {H W:Nat} (h1:1≤H) (h2:H≤n) (w1:1≤W) (w2:W≤m):f H W=true:=by
  have:=List.all_eq_true.mp (List.all_eq_true.mp h (H - 1) (List.mem_range.mpr (by lia))) (W - 1) (List.mem_range.mpr (by lia))
  rwa [show H - 1 + 1=H by lia,show W - 1 + 1=W by lia] at this
theorem one_all {f:Nat→Bool} {n:Nat} (h:((List.range n).all fun i=>f (i + 1))=true) {H:Nat} (h1:1≤H) (h2:H≤n):f H=true:=by
  have:=List.all_eq_true.mp h (H - 1) (List.mem_range.mpr (by lia))
  rwa [show H - 1 + 1=H by lia] at this
theorem sz_ok {H W:Nat} (s:SzS H W):allOk H W=true:=by
  rcases s with ⟨a,b,c,d⟩ | ⟨rfl,c,d⟩ | ⟨a,b,rfl⟩ | ⟨rfl,c,d⟩
  · exact two_all (f:=allOk) ok_a a b c d
  · exact one_all (f:=allOk 1) ok_b c d
  · exact one_all (f:=fun i=>allOk i 1) ok_c a b
  · exact one_all (f:=allOk 2) ok_d c d
theorem good_of {H W:Nat} (h1:1≤H) (w1:1≤W) (hH:H≤100) (g:goodB H W=true):GoodT 1 (H * W:Nat) (spR H W):=by
  have hp:0 < H * W:=Nat.mul_pos h1 w1
  unfold goodB at g
  have hl:(spR H W).length=H:=by simp [spR,spRows]
  refine ⟨by lia,fun e=>by rw [e] at hl; simp at hl; lia,⟨W,w1,fun r hr=>?_⟩,fun r hr v hv=>?_,by lia⟩
  · unfold spR at hr
    obtain ⟨r',hr',rfl⟩:=List.mem_map.mp hr
    have:=List.all_eq_true.mp g r' hr'
    simp only [Bool.and_eq_true,beq_iff_eq] at this
    simpa using this.1
  · unfold spR at hr
    obtain ⟨r',hr',rfl⟩:=List.mem_map.mp hr
    obtain ⟨x,hx,rfl⟩:=List.mem_map.mp hv
    have:=List.all_eq_true.mp g r' hr'
    simp only [Bool.and_eq_true,beq_iff_eq,List.all_eq_true,decide_eq_true_eq] at this
    have:=this.2 x hx
    lia
theorem spread_at {H W:Nat} (g:spreadOk H W=true) {l:Nat} (hl:l≤H * W):dueP H W (lvlN l (spR H W))=if l < 2 then none else some ((lsGo H W (H * W)).2.2.getD (l - 1) ((0,0),0)).2:=by
  unfold spreadOk at g
  have:=List.all_eq_true.mp g l (List.mem_range.mpr (by lia))
  simpa [spR] using this
end MP
end
section
set_option maxHeartbeats 2000000
namespace MP
open PySem
section
variable (n:Nat) (h:MH)
theorem run_spread_size (ns:List Int) (k:Int) (hk:0≤k) (hk2:k < 1000000):∃ a b:Nat,SzS a b∧run prog (n + 2) "_law_spread_size" [.f (.scr ns),.ref 0] (atC k::h)=.ok (.f (.tup [.int a,.int b])) (atC (k + 1)::h):=by
  have N:=run_next n h ns k hk hk2
  have hd:=draw_nn ns (k + 1)
  generalize draw ns (k + 1)=x at N hd
  have h5:=mod_lt x 5 (by decide)
  have d5:∀ hh,binV true .fdiv (I x) (I 5) hh=.ok (I (x / 5)) hh:=fun hh=>bin_fdiv _ _ _ ⟨by decide,.inl (by decide)⟩
  have d30:∀ hh,binV true .fdiv (I x) (I 30) hh=.ok (I (x / 30)) hh:=fun hh=>bin_fdiv _ _ _ ⟨by decide,.inl (by decide)⟩
  obtain ⟨a,b,s,e⟩:∃ a b:Nat,SzS a b∧atM [MV.f (.tup [.int (1 + x / 5 % 5),.int (1 + x / 30 % 5)]),.f (.tup [.int 1,.int (1 + x / 5 % 24)]),.f (.tup [.int (1 + x / 5 % 24),.int 1]),.f (.tup [.int 2,.int (1 + x / 5 % 12)]),.f (.tup [.int (1 + x / 5 % 5),.int 5])] (x % 5)=some (.f (.tup [.int a,.int b])):=by
    have key:∀ u:Int,1≤u→∃ a:Nat,u=a:=fun u h1=>Int.eq_ofNat_of_zero_le (by lia)
    have:x % 5=0∨x % 5=1∨x % 5=2∨x % 5=3∨x % 5=4:=by lia
    rcases this with e | e | e | e | e <;> rw [e]
    · obtain ⟨a,e1⟩:=key (1 + x / 5 % 5) (by lia)
      obtain ⟨b,e2⟩:=key (1 + x / 30 % 5) (by lia)
      exact ⟨a,b,.inl (by lia),by rw [e1,e2]; rfl⟩
    · obtain ⟨b,e2⟩:=key (1 + x / 5 % 24) (by lia)
      exact ⟨1,b,.inr (.inl (by lia)),by rw [← e2]; rfl⟩
    · obtain ⟨a,e1⟩:=key (1 + x / 5 % 24) (by lia)
      exact ⟨a,1,.inr (.inr (.inl (by lia))),by rw [← e1]; rfl⟩
    · obtain ⟨b,e2⟩:=key (1 + x / 5 % 12) (by lia)
      exact ⟨2,b,.inr (.inr (.inr (by lia))),by rw [← e2]; rfl⟩
    · obtain ⟨a,e1⟩:=key (1 + x / 5 % 5) (by lia)
      exact ⟨a,5,.inl (by lia),by rw [← e1]; rfl⟩
  refine ⟨a,b,s,?_⟩
  rw [r_d__law_spread_size]
  simp only [d__law_spread_size]
  simp [N,d5,d30,bin_mod,allF,bin_cat1,e]
theorem run_fine (b:Option Nat):run prog (n + 2) "_law_fine" [.f (optN b),.f (optN b)] h=.ok (B true) h:=by
  have S:=fun d:Nat=>run_same n h 1 (.int d) (by simp [isQ])
  rw [r_d__law_fine]; simp only [d__law_fine]
  cases b with
  | none=>simp [optN]
  | some d =>
    have hx:optN (some d)=.int (d:Nat):=rfl
    rw [hx]
    simp [S]
end
end MP
end
section
set_option maxHeartbeats 2000000
namespace MP
open PySem
theorem sz_le {H W:Nat} (s:SzS H W):1≤H∧1≤W∧H≤24∧W≤24∧H * W≤25:=by
  rcases s with ⟨a,b,c,d⟩ | ⟨rfl,c,d⟩ | ⟨a,b,rfl⟩ | ⟨rfl,c,d⟩
  · have:H * W≤5 * 5:=Nat.mul_le_mul b d
    lia
  all_goals lia
section
variable (n:Nat)
theorem law_tailB (ns:List Int) (kk:Int) (k0:0≤kk) (k1:kk < 1000) (z2 z3 z4 z5 z6 z7:Option MV) :
    Ret (leaveS [] (execSs prog (run prog (n + 3)) (d_law.body.drop 8) [some (.f (.scr ns)),some (.ref 0),z2,z3,z4,z5,z6,z7,none,none,none,none,none] [atC kk])) fun v _=>v=B true:=by
  refine Ret.of fun Q hQ=>?_
  obtain ⟨H,W,sz,S⟩:=run_spread_size (n + 1) [] ns kk k0 (by lia)
  obtain ⟨h1,w1,hH,hW,hHW⟩:=sz_le sz
  have ok:=sz_ok sz
  unfold allOk at ok
  simp only [Bool.and_eq_true] at ok
  obtain ⟨⟨o1,o2⟩,o3⟩:=ok
  obtain ⟨l,ls,l1,so⟩:=stepsOk_st o1
  have g:=good_of h1 w1 (by lia) o2
  have SP:=fun hh=>run_spread_tile n hh h1 w1 (by lia) (by lia) g
  have LS:=fun hh=>run_law_spread (n + 1) hh h1 w1 (by lia) (by lia)
  have rl:(spR H W).length=H:=by simp [spR,spRows]
  have rw':∀ r∈spR H W,r.length=W:=fun r hr=>by
    unfold goodB at o2
    unfold spR at hr
    obtain ⟨r',hr',rfl⟩:=List.mem_map.mp hr
    have:=List.all_eq_true.mp o2 r' hr'
    simp only [Bool.and_eq_true,beq_iff_eq] at this
    simpa using this.1
  have NT:∀ (lev:Int) hh,run prog (n + 3) "nearest_two" [.f (tileV (H * W:Nat) (spR H W)),I lev] hh=.ok (.f (optN (dueP H W (lvlN lev (spR H W))))) hh:=fun lev hh=>by
    rw [run_nearest (n + 1) hh (H * W:Nat) (spR H W) lev h1 w1 (by lia) (by lia) rl rw' ls l1,nt_due rl rw' h1 w1 so]
  have N0:=NT 0
  have N1:=NT 1
  have e0:dueP H W (lvlN 0 (spR H W))=none:=spread_at o3 (l:=0) (by lia)
  have e1:dueP H W (lvlN 1 (spR H W))=none:=by
    have hp:0 < H * W:=Nat.mul_pos h1 w1
    exact spread_at o3 (l:=1) (by lia)
  rw [e0] at N0
  rw [e1] at N1
  have N2:∀ lev:Nat,2≤lev→lev≤H * W→∀ hh,run prog (n + 3) "nearest_two" [.f (tileV (H * W:Nat) (spR H W)),I (lev:Nat)] hh=.ok (I (((lsGo H W (H * W)).2.2.getD (lev - 1) ((0,0),0)).2:Nat)) hh:=fun lev a b hh=>by
    rw [NT,spread_at o3 b,if_neg (by lia)]; rfl
  obtain ⟨_,_,ll,_⟩:=lsGo_len H W (H * W) (Nat.le_refl _)
  clear NT e0 e1 o1 o2 o3 g
  generalize tileV (H * W:Nat) (spR H W)=tv at *
  generalize (lsGo H W (H * W)).2.2=fl at *
  have hx:optN none=.non:=rfl
  rw [hx] at N0 N1
  have q:∀ hh,seqOf hh (.f (.lst (fl.map fndV)))=some (fl.map (MV.f∘fndV)):=fun hh=>by simp
  have Sm:=fun (d:Nat) hh=>run_same (n + 2) hh 1 (.int d) (by simp [isQ])
  simp only [d_law,List.drop]
  generalize hnv:FV.lst (fl.map fndV)=nv at *
  simp [S,SP,LS,N0,N1]
  refine for_range (Q:=fun r=>Ret (leaveS _ r) _) 3 (fun i σ hh=>∃ (k2:Int) (z7 z12:Option MV),k2=kk + 1 + i∧hh=[atC k2]∧σ=[some (.f (.scr ns)),some (.ref 0),z2,z3,z4,z5,z6,z7,some (I H),some (I W),some (.f tv),some (.f nv),z12]) ⟨kk + 1,_,_,by lia,rfl,rfl⟩ ?_ ?_
  · rintro i σ hh hi ⟨k2,z7,z12,hk2,rfl,rfl⟩ Q hQ
    have NX:=run_next (n + 2) [] ns k2 (by lia) (by lia)
    have hd:=draw_nn ns (k2 + 1)
    generalize draw ns (k2 + 1)=x at *
    obtain ⟨mx,hmx,MX⟩:∃ mx:Int,1≤mx∧∀ hh,bltV true "max" [I 1,I ((fl.length:Int) - 1)] hh=.ok (I mx) hh:=⟨if (fl.length:Int) - 1 > 1 then (fl.length:Int) - 1 else 1,by split <;> lia,fun hh=>rfl⟩
    have bm:∀ hh,binV true .mod (I x) (I mx) hh=.ok (I (x % mx)) hh:=fun hh=>bin_mod _ _ _ (by lia)
    have hm:=mod_lt x mx (by lia)
    obtain ⟨y,hy⟩:=Int.eq_ofNat_of_zero_le hm.1
    have hn:∀ hh,seqOf hh (.f nv)=some (fl.map (MV.f∘fndV)):=q
    rw [hy] at bm
    by_cases c:2 + y≤H * W
    · have n2:=N2 (2 + y) (by lia) c
      have hyl:2 + y - 1 < fl.length:=by lia
      have at1:atM (fl.map (MV.f∘fndV)) ((2:Int) + y - 1)=some (.f (fndV (fl.getD (2 + y - 1) ((0,0),0)))):=by
        rw [atM_pos _ _ (by lia),show ((2:Int) + y - 1).toNat=2 + y - 1 by lia,List.getElem?_map,List.getD_eq_getElem?_getD,List.getElem?_eq_getElem hyl]; rfl
      generalize fl.getD (2 + y - 1) ((0,0),0)=fp at *
      have at2:∀ hh,(opt (seqOf hh (.f (fndV fp))) fun xs=>opt (atM xs 1) fun v=>R.ok v hh)=.ok (I (fp.2:Nat)) hh:=fun hh=>rfl
      have sf:∀ hh,seqOf hh (.f (fndV fp))=some [.f (cellN fp.1),I (fp.2:Nat)]:=fun hh=>rfl
      have a2:atM [.f (cellN fp.1),I (fp.2:Nat)] 1=some (I (fp.2:Nat)):=rfl
      have e2:((2 + y:Nat):Int)=2 + (y:Int):=by lia
      rw [e2] at n2
      have c':(2:Int) + y≤(fl.length:Int):=by lia
      have Sm':=Sm fp.2
      generalize fp.2=dv at *
      generalize fndV fp=fq at *
      simp [loopB,NX,hn,MX,bm,c',n2,at1,sf,a2,Sm',-bltV_max2]
      exact hQ _ _ ⟨k2 + 1,_,_,by lia,rfl,rfl⟩
    · have c':¬ (2:Int) + y≤(fl.length:Int):=by lia
      simp [loopB,NX,hn,MX,bm,c',-bltV_max2]
      exact hQ _ _ ⟨k2 + 1,_,_,by lia,rfl,rfl⟩
  · rintro σ hh ⟨k2,z7,z12,hk2,rfl,rfl⟩
    have lv:=leave_app [] [atC k2] (.bl true)
    simp only [List.nil_append] at lv
    simp [lv]
    exact hQ _ _ rfl
end
end MP
end
section
set_option maxHeartbeats 2000000
namespace MP
open PySem
section
variable (n:Nat)
theorem law_tailA (ns:List Int) (kk count:Int) (k0:0≤kk) (k1:kk < 500) (rows:List (List Int)) {H W:Nat} (h1:1≤H) (w1:1≤W) (hH:H≤100) (hW:W≤100) (hl:rows.length=H) (hw:∀ r∈rows,r.length=W) (gt:GoodT 1 count rows) (st:stepsOk H W=true) (z2:Option MV) :
    Ret (leaveS [] (execSs prog (run prog (n + 3)) (d_law.body.drop 5) [some (.f (.scr ns)),some (.ref 0),z2,some (I count),some (.f (rowsV false false rows)),none,none,none,none,none,none,none,none] [atC kk])) fun v _=>v=B true:=by
  refine Ret.of fun Q hQ=>?_
  obtain ⟨l,ls,l1,so⟩:=stepsOk_st st
  have hc:=gt.m1
  have MT:=fun hh=>make_Tile (n + 1) hh count false false rows gt
  have N:=run_next (n + 2) [] ns kk k0 (by lia)
  have FN:=fun (lev:Int) hh=>run_fine (n + 1) hh (dueP H W (lvlN lev rows))
  have DU:=fun (lev:Int) hh=>run_due (n + 1) hh rows lev h1 w1 (by lia) (by lia) hl hw
  have NT:∀ (lev:Int) hh,run prog (n + 3) "nearest_two" [.f (tileV count rows),I lev] hh=.ok (.f (optN (dueP H W (lvlN lev rows)))) hh:=fun lev hh=>by
    rw [run_nearest (n + 1) hh count rows lev h1 w1 (by lia) (by lia) hl hw ls l1,nt_due hl hw h1 w1 so]
  have d7:∀ x hh,binV true .fdiv (I x) (I 7) hh=.ok (I (x / 7)) hh:=fun x hh=>bin_fdiv _ _ _ ⟨by decide,.inl (by decide)⟩
  have bm:∀ x hh,binV true .mod (I x) (I count) hh=.ok (I (x % count)) hh:=fun x hh=>bin_mod _ _ _ (by lia)
  generalize draw ns (kk + 1)=x at N
  have e5:d_law.body.drop 5=(d_law.body.drop 5).take 3++d_law.body.drop 8:=rfl
  generalize hB:d_law.body.drop 8=BB at e5
  rw [e5]
  simp only [d_law,List.drop,List.take,List.cons_append,List.nil_append]
  generalize tileV count rows=tv at *
  generalize rowsV false false rows=rv at *
  simp [MT,N,d7,bm,allF]
  refine for_all (Q:=fun r=>Ret (leaveS _ r) _) (fun x=>∃ lev:Int,x=I lev) (fun σ hh=>∃ z7:Option MV,hh=[atC (kk + 1)]∧σ=[some (.f (.scr ns)),some (.ref 0),z2,some (I count),some (.f rv),some (.f tv),some (I x),z7,none,none,none,none,none]) ?_ ⟨_,rfl,rfl⟩ ?_ ?_
  · intro y hy
    simp only [List.mem_cons,List.not_mem_nil,or_false] at hy
    rcases hy with rfl | rfl | rfl | rfl | rfl | rfl | rfl <;> exact ⟨_,rfl⟩
  · rintro y σ hh ⟨lev,rfl⟩ ⟨z7,rfl,rfl⟩ Q hQ
    have a:=NT lev
    have b:=DU lev
    have c:=FN lev
    generalize optN (dueP H W (lvlN lev rows))=ov at *
    simp [loopB,a,b,c]
    exact hQ _ _ ⟨_,rfl,rfl⟩
  · rintro σ hh ⟨z7,rfl,rfl⟩
    subst hB
    obtain ⟨v,g,e,hv⟩:=law_tailB n ns (kk + 1) (by lia) (by lia) z2 (some (I count)) (some (.f rv)) (some (.f tv)) (some (I x)) z7
    exact ⟨v,g,e,hQ v g hv⟩
theorem run_law (ns:List Int) (hl:ns.length≤63):∃ g,run prog (n + 4) "law" [.f (.scr ns)] []=.ok (B true) g:=by
  suffices Ret (run prog (n + 4) "law" [.f (.scr ns)] []) fun v h'=>v=B true by
    obtain ⟨v,h',e,rfl⟩:=this
    exact ⟨h',e⟩
  refine Ret.of fun Q hQ=>?_
  obtain ⟨a,b,a1,b1,a60,b60,ab,Sz⟩:=run_drawn_size (n + 1) [] ns 0 (by lia) (by lia)
  replace Sz:run prog (n + 3) "_law_drawn_size" [.f (.scr ns),.ref 0] [atC 0]=.ok (.f (.tup [.int a,.int b])) [atC 1]:=Sz
  obtain ⟨c,hc1,hc2,Cn⟩:=run_drawn_count n [] ns 1 (by lia) (by lia)
  replace Cn:run prog (n + 3) "_law_drawn_count" [.f (.scr ns),.ref 0] [atC 1]=.ok (I c) [atC 3]:=Cn
  have mA:∀ hh,bltV true "min" [I 6,I (a:Nat)] hh=.ok (I ((if a < 6 then a else 6:Nat):Nat)) hh:=fun hh=>by
    rw [bltV_min2]; by_cases q:a < 6
    · rw [if_pos q,if_pos (by lia)]
    · rw [if_neg q,if_neg (by lia)]; rfl
  have mB:∀ hh,bltV true "min" [I 5,I (b:Nat)] hh=.ok (I ((if b < 5 then b else 5:Nat):Nat)) hh:=fun hh=>by
    rw [bltV_min2]; by_cases q:b < 5
    · rw [if_pos q,if_pos (by lia)]
    · rw [if_neg q,if_neg (by lia)]; rfl
  have mC:∀ hh,bltV true "min" [I 30,I (b:Nat)] hh=.ok (I ((if b < 30 then b else 30:Nat):Nat)) hh:=fun hh=>by
    rw [bltV_min2]; by_cases q:b < 30
    · rw [if_pos q,if_pos (by lia)]
    · rw [if_neg q,if_neg (by lia)]; rfl
  obtain ⟨H,hH,H1,H6⟩:∃ H:Nat,(if a < 6 then a else 6)=H∧1≤H∧H≤6:=⟨_,rfl,by split <;> lia,by split <;> lia⟩
  obtain ⟨W,hW,W1,W5⟩:∃ W:Nat,(if b < 5 then b else 5)=W∧1≤W∧W≤5:=⟨_,rfl,by split <;> lia,by split <;> lia⟩
  obtain ⟨W',hW',W1',W30⟩:∃ W:Nat,(if b < 30 then b else 30)=W∧1≤W∧W≤30:=⟨_,rfl,by split <;> lia,by split <;> lia⟩
  rw [hH] at mA
  rw [hW] at mB
  rw [hW'] at mC
  have hHW:H * W≤30:=Nat.mul_le_mul H6 W5
  obtain ⟨v,h',Tr,rows,rl,hrv,rfl,rfl⟩:=run_tile_rows n [] ns 3 c H W (by lia) (by lia) hc1 (by lia) (by lia)
  obtain ⟨k3,hk3⟩:∃ k3:Int,k3=3 + (H * W:Nat):=⟨_,rfl⟩
  rw [← hk3] at Tr
  have q:∀ (rows:List (List Int)) hh,seqOf hh (.f (rowsV false false rows))=some (rows.map (MV.f∘rowV false)):=fun rows hh=>by simp [rowsV]
  have good:∀ {rows:List (List Int)} {H W:Nat},1≤H→H≤100→1≤W→rows.length=H→(∀ r∈rows,r.length=W∧∀ v∈r,1≤v∧v≤c)→GoodT 1 c rows:=fun {rows H W} h1 h2 w1 hl hr=>⟨hc1,fun e=>by simp [e] at hl; lia,⟨W,by lia,fun r hm=>(hr r hm).1⟩,fun r hm=>(hr r hm).2,by lia⟩
  rw [r_d_law]
  have eb:d_law.body=d_law.body.take 5++d_law.body.drop 5:=rfl
  have TA:=law_tailA n ns
  generalize hBB:d_law.body.drop 5=BB at eb TA
  rw [eb]
  simp only [d_law,List.take,List.cons_append,List.nil_append]
  have qr:=q rows
  by_cases c1:rows.length=1
  · obtain ⟨v,h',Tr2,rows2,rl2,hrv2,rfl,rfl⟩:=run_tile_rows n [] ns k3 c 1 W' (by lia) (by lia) hc1 (by lia) (by lia)
    obtain ⟨k4,hk4⟩:∃ k4:Int,k4=k3 + (1 * W':Nat):=⟨_,rfl⟩
    rw [← hk4] at Tr2
    replace Tr2:run prog (n + 3) "_law_tile_rows" [.f (.scr ns),.ref 0,I c,I 1,I (W':Nat)] [atC k3]=.ok (.f (rowsV false false rows2)) [atC k4]:=Tr2
    obtain ⟨v,g,e,hv⟩:=TA k4 c (by lia) (by lia) rows2 (H:=1) (W:=W') (by lia) W1' (by lia) (by lia) rl2 (fun r hr=>(hrv2 r hr).1) (good (by lia) (by lia) W1' rl2 hrv2) (one_all (f:=stepsOk 1) ok_f W1' W30) (some (.f (.tup [.int a,.int b])))
    generalize rowsV false false rows=rv at *
    generalize rowsV false false rows2=rv2 at *
    simp [Sz,Cn,mA,mB,mC,Tr,Tr2,qr,c1,-bltV_min2]
    rw [e]
    simp
    exact hQ _ _ hv
  · obtain ⟨v,g,e,hv⟩:=TA k3 c (by lia) (by lia) rows (H:=H) (W:=W) H1 W1 (by lia) (by lia) rl (fun r hr=>(hrv r hr).1) (good H1 (by lia) W1 rl hrv) (two_all (f:=stepsOk) ok_e H1 H6 W1 W5) (some (.f (.tup [.int a,.int b])))
    generalize rowsV false false rows=rv at *
    have c2:¬ ((rows.length:Nat):Int)=1:=by lia
    simp [Sz,Cn,mA,mB,Tr,qr,c1,c2,-bltV_min2]
    rw [e]
    simp
    exact hQ _ _ hv
end
end MP
end
section
set_option maxHeartbeats 4000000
namespace SD
open PySem L2 L3 M3 MP PyProof.Rows
noncomputable def top (i:Nat):Stmt:=PySem.Challenge.pw_dotscreen_k14_nearest.main.body.getD i (.Pass ⟨0,0,0,0⟩)
noncomputable abbrev t_own_rows:Stmt:=top 4
theorem b_own_rows:defB prog d_own_rows ["rows"] ["rows"] t_own_rows=true:=by decide +kernel
noncomputable abbrev t_fault_of:Stmt:=top 5
theorem b_fault_of:defB prog d_fault_of ["rows","least","greatest","row"] ["rows","least","greatest"] t_fault_of=true:=by decide +kernel
noncomputable abbrev t_cells_by_rows:Stmt:=top 6
theorem b_cells_by_rows:defB prog d_cells_by_rows ["high","wide","cells","row"] ["high","wide"] t_cells_by_rows=true:=by decide +kernel
noncomputable abbrev t_Tile___init__:Stmt:=inClass (top 8) 0
theorem b_Tile___init__:defB prog d_Tile___init__ ["self","count","rows","kept","fault"] ["self","count","rows"] t_Tile___init__=true:=by decide +kernel
noncomputable abbrev t_threshold_at:Stmt:=top 9
theorem b_threshold_at:defB prog d_threshold_at ["tile","row","column","line"] ["tile","row","column"] t_threshold_at=true:=by decide +kernel
noncomputable abbrev t_level_of:Stmt:=top 10
theorem b_level_of:defB prog d_level_of ["tile","level","cells","row","line"] ["tile","level"] t_level_of=true:=by decide +kernel
noncomputable abbrev t_spread_tile:Stmt:=top 12
theorem b_spread_tile:defB prog d_spread_tile ["high","wide","cells","numbers","nearest","number","place","apart"] ["high","wide"] t_spread_tile=true:=by decide +kernel
noncomputable abbrev t_distance:Stmt:=top 13
theorem b_distance:defB prog d_distance ["one","other","high","wide","down","right"] ["one","other","high","wide"] t_distance=true:=by decide +kernel
noncomputable abbrev t_round_edge:Stmt:=top 14
theorem b_round_edge:defB prog d_round_edge ["far","side"] ["far","side"] t_round_edge=true:=by decide +kernel
noncomputable abbrev t_nearest_two:Stmt:=top 15
theorem b_nearest_two:defB prog d_nearest_two ["tile","level","cells","far","down","right","row","column"] ["tile","level"] t_nearest_two=true:=by decide +kernel
noncomputable abbrev t_steps_by_distance:Stmt:=top 16
theorem b_steps_by_distance:defB prog d_steps_by_distance ["high","wide","steps","down"] ["high","wide"] t_steps_by_distance=true:=by decide +kernel
noncomputable abbrev t__law_next:Stmt:=top 18
theorem b__law_next:defB prog d__law_next ["_law_script","_law_at","_law_cell","_law_m"] ["_law_script","_law_at"] t__law_next=true:=by decide +kernel
noncomputable abbrev t__law_great:Stmt:=top 19
theorem b__law_great:defB prog d__law_great ["_law_script","_law_at","_law_room","_law_m","_law_cell"] ["_law_script","_law_at","_law_room"] t__law_great=true:=by decide +kernel
noncomputable abbrev t__law_same:Stmt:=top 20
theorem b__law_same:defB prog d__law_same ["_law_found","_law_due_here"] ["_law_found","_law_due_here"] t__law_same=true:=by decide +kernel
noncomputable abbrev t__law_drawn_size:Stmt:=top 21
theorem b__law_drawn_size:defB prog d__law_drawn_size ["_law_script","_law_at","_law_m","_law_sizes"] ["_law_script","_law_at"] t__law_drawn_size=true:=by decide +kernel
noncomputable abbrev t__law_drawn_count:Stmt:=top 22
theorem b__law_drawn_count:defB prog d__law_drawn_count ["_law_script","_law_at","_law_m"] ["_law_script","_law_at"] t__law_drawn_count=true:=by decide +kernel
noncomputable abbrev t__law_tile_rows:Stmt:=top 23
theorem b__law_tile_rows:defB prog d__law_tile_rows ["_law_script","_law_at","_law_count","_law_rows","_law_columns","_law_made","_law_r"] ["_law_script","_law_at","_law_count","_law_rows","_law_columns"] t__law_tile_rows=true:=by decide +kernel
noncomputable abbrev t__law_far:Stmt:=top 24
theorem b__law_far:defB prog d__law_far ["_law_one","_law_other","_law_rows","_law_columns","_law_down","_law_along"] ["_law_one","_law_other","_law_rows","_law_columns"] t__law_far=true:=by decide +kernel
noncomputable abbrev t__law_spread:Stmt:=top 25
theorem b__law_spread:defB prog d__law_spread ["_law_rows","_law_columns","_law_left","_law_r","_law_near","_law_found","_law_spot","_law_cell"] ["_law_rows","_law_columns"] t__law_spread=true:=by decide +kernel
noncomputable abbrev t__law_spread_size:Stmt:=top 26
theorem b__law_spread_size:defB prog d__law_spread_size ["_law_script","_law_at","_law_m","_law_sizes"] ["_law_script","_law_at"] t__law_spread_size=true:=by decide +kernel
noncomputable abbrev t__law_due:Stmt:=top 27
theorem b__law_due:defB prog d__law_due ["_law_rows","_law_level","_law_cells","_law_r","_law_best","_law_k","_law_other","_law_distance"] ["_law_rows","_law_level"] t__law_due=true:=by decide +kernel
noncomputable abbrev t__law_fine:Stmt:=top 28
theorem b__law_fine:defB prog d__law_fine ["_law_found","_law_due_here"] ["_law_found","_law_due_here"] t__law_fine=true:=by decide +kernel
noncomputable abbrev t_law:Stmt:=top 29
theorem b_law:defB prog d_law ["_law_script","_law_at","_law_size","_law_count","_law_rows","_law_tile","_law_m","_law_level","_law_rows_count","_law_columns","_law_spread_here","_law_numbered","_law_k"] ["_law_script"] t_law=true:=by decide +kernel
end SD
end
section
set_option maxHeartbeats 4000000
namespace SD
open PySem PySem.Spec PyProof.Rows L2 L3 M3 MP
noncomputable def ctOf (K:PySem.W.Frag) (C_Tile:Addr):Tx:=⟨(fun s=>match s with
    | "Tile"=>C_Tile
    | _=>0),K,0,0,⟨0,0,0,0⟩,Str.ofString ""⟩
theorem all_mk {l:PySem.W.OpenLaw} {w:World} {K:PySem.W.Frag} {h:Heap} {mg:Str→Option Value} {fa:Addr} {C_Tile:Addr} {cd_Tile:ClassData} {f_i_Tile:Addr} {f_law:Addr} {od_law an_law:Option Addr} {sl_law:Array (Option Value)} {oc_law kV_law dc_law pm_law cv_law ct_law:Value} (X:K.In h) (G:h.Ns mainGlobals mg) (hfa:mg "law"=some (.ref fa))
    (S_own_rows:Src K mg "own_rows" t_own_rows ["rows"]) (S_fault_of:Src K mg "fault_of" t_fault_of ["rows","least","greatest"]) (S_cells_by_rows:Src K mg "cells_by_rows" t_cells_by_rows ["high","wide"]) (S_threshold_at:Src K mg "threshold_at" t_threshold_at ["tile","row","column"]) (S_level_of:Src K mg "level_of" t_level_of ["tile","level"]) (S_spread_tile:Src K mg "spread_tile" t_spread_tile ["high","wide"]) (S_distance:Src K mg "distance" t_distance ["one","other","high","wide"]) (S_round_edge:Src K mg "round_edge" t_round_edge ["far","side"]) (S_nearest_two:Src K mg "nearest_two" t_nearest_two ["tile","level"]) (S_steps_by_distance:Src K mg "steps_by_distance" t_steps_by_distance ["high","wide"]) (S__law_next:Src K mg "_law_next" t__law_next ["_law_script","_law_at"]) (S__law_great:Src K mg "_law_great" t__law_great ["_law_script","_law_at","_law_room"]) (S__law_same:Src K mg "_law_same" t__law_same ["_law_found","_law_due_here"]) (S__law_drawn_size:Src K mg "_law_drawn_size" t__law_drawn_size ["_law_script","_law_at"]) (S__law_drawn_count:Src K mg "_law_drawn_count" t__law_drawn_count ["_law_script","_law_at"]) (S__law_tile_rows:Src K mg "_law_tile_rows" t__law_tile_rows ["_law_script","_law_at","_law_count","_law_rows","_law_columns"]) (S__law_far:Src K mg "_law_far" t__law_far ["_law_one","_law_other","_law_rows","_law_columns"]) (S__law_spread:Src K mg "_law_spread" t__law_spread ["_law_rows","_law_columns"]) (S__law_spread_size:Src K mg "_law_spread_size" t__law_spread_size ["_law_script","_law_at"]) (S__law_due:Src K mg "_law_due" t__law_due ["_law_rows","_law_level"]) (S__law_fine:Src K mg "_law_fine" t__law_fine ["_law_found","_law_due_here"]) (S_law:Src K mg "law" t_law ["_law_script"])
    (zb:∀ x∈(["abs","all","bool","dict","divmod","enumerate","int","isinstance","len","list","max","min","range","reversed","set","sorted","str","sum","tuple","zip"]:List Str),PySem.W.nsIn K mainGlobals x=some none)
    (gn:PySem.W.specialIn K (.builtin "object.__class__") "__get__"=some (some (.builtin "getset_descriptor.__get__")))
    (tk:PySem.W.takesIn K (.builtin "object.__class__")=some true)
    (kC_Tile:CK K "Tile" C_Tile cd_Tile)
    (n_Tile_count:PySem.W.findIn K (.ref C_Tile) "count"=some none)
    (n_Tile_rows:PySem.W.findIn K (.ref C_Tile) "rows"=some none)
    (ik_Tile:IK K C_Tile f_i_Tile)
    (fi_Tile:FE K "__init__" "Tile.__init__" t_Tile___init__ f_i_Tile)
    (al:PySem.W.nsIn K mainGlobals "law"=some (some (.ref f_law)))
    (ll:K.lookup f_law=some ⟨oc_law,od_law,.func (PySem.W.fnOf "law" "law" (defArgs t_law) (defBody t_law) (defScope t_law) .none kV_law dc_law pm_law an_law cv_law ct_law),sl_law⟩)
    (kl:PySem.W.codeIn K cv_law "law"=true)
    (kq:PySem.W.keepIn K (.ref f_law)=true) :
    ∃ fd:FuncData,(∀ (s:Shared) (v:Value),BindsTo s fd ⟨[v],[]⟩ [("_law_script",v)])∧∀ base:Heap,K.In base→base.Ns mainGlobals mg→FnOk l.prog w K mg base (CX1 l.prog w) 8 fa fd ["_law_script"] (spLaw K):=by
  have e:=hfa.symm.trans (PySem.W.mg_of X G al)
  cases e
  have Fl:=fun_mk (st:=t_law) ll kl kq
  have TM:AllT (MethP K mg prog (ctOf K C_Tile)) methsL:=⟨meth_i X G kC_Tile fi_Tile ik_Tile (fun _ _ _ _ _ _ us hl=>by obtain ⟨_,_,_,rfl⟩:=ln3 hl; rfl) b_Tile___init__ rfl,trivial⟩
  have TS:AllT (SubP K mg (ctOf K C_Tile)) subsL:=trivial
  have T:Text K mg prog (ctOf K C_Tile):=by
    refine ⟨rfl,?_,?_,?_,?_,?_,?_,?_,?_,?_,?_,?_,?_,?_,?_,?_,?_,?_⟩
    · exact fun f d hd hdot=>allL_look (L:=defsL) (P:=fun f d=>f.toList.contains '.'=false→∃ st N ps,Src K mg (Str.ofString f) st ps∧(defB prog d N ps st=true∨PrimOk K mg prog (ctOf K C_Tile) f ps)) (by
      refine ⟨?_,?_,?_,?_,?_,?_,?_,?_,?_,?_,?_,?_,?_,?_,?_,?_,?_,?_,?_,?_,?_,?_,?_,trivial⟩
      · exact fun _=>⟨_,_,_,S_own_rows,.inl b_own_rows⟩
      · exact fun _=>⟨_,_,_,S_fault_of,.inl b_fault_of⟩
      · exact fun _=>⟨_,_,_,S_cells_by_rows,.inl b_cells_by_rows⟩
      · exact fun hdot=>absurd hdot (by decide)
      · exact fun _=>⟨_,_,_,S_threshold_at,.inl b_threshold_at⟩
      · exact fun _=>⟨_,_,_,S_level_of,.inl b_level_of⟩
      · exact fun _=>⟨_,_,_,S_spread_tile,.inl b_spread_tile⟩
      · exact fun _=>⟨_,_,_,S_distance,.inl b_distance⟩
      · exact fun _=>⟨_,_,_,S_round_edge,.inl b_round_edge⟩
      · exact fun _=>⟨_,_,_,S_nearest_two,.inl b_nearest_two⟩
      · exact fun _=>⟨_,_,_,S_steps_by_distance,.inl b_steps_by_distance⟩
      · exact fun _=>⟨_,_,_,S__law_next,.inl b__law_next⟩
      · exact fun _=>⟨_,_,_,S__law_great,.inl b__law_great⟩
      · exact fun _=>⟨_,_,_,S__law_same,.inl b__law_same⟩
      · exact fun _=>⟨_,_,_,S__law_drawn_size,.inl b__law_drawn_size⟩
      · exact fun _=>⟨_,_,_,S__law_drawn_count,.inl b__law_drawn_count⟩
      · exact fun _=>⟨_,_,_,S__law_tile_rows,.inl b__law_tile_rows⟩
      · exact fun _=>⟨_,_,_,S__law_far,.inl b__law_far⟩
      · exact fun _=>⟨_,_,_,S__law_spread,.inl b__law_spread⟩
      · exact fun _=>⟨_,_,_,S__law_spread_size,.inl b__law_spread_size⟩
      · exact fun _=>⟨_,_,_,S__law_due,.inl b__law_due⟩
      · exact fun _=>⟨_,_,_,S__law_fine,.inl b__law_fine⟩
      · exact fun _=>⟨_,_,_,S_law,.inl b_law⟩) hd hdot
    · exact fun c f hi=>initsT TM hi
    · intro x hx
      simp only [fnNames,tyNames,isTys,List.cons_append,List.nil_append,List.mem_cons,List.not_mem_nil,or_false] at hx
      rcases hx with rfl | rfl | rfl | rfl | rfl | rfl | rfl | rfl | rfl | rfl | rfl | rfl | rfl | rfl | rfl | rfl | rfl | rfl | rfl
      all_goals exact PySem.W.mg_none_of X G (zb _ (by simp))
    · intro c f hf
      simp only [prog] at hf
      split at hf
      · exact ⟨⟨kC_Tile.pg,kC_Tile.hd,kC_Tile.po,kC_Tile.sa⟩,n_Tile_count⟩
      · exact ⟨⟨kC_Tile.pg,kC_Tile.hd,kC_Tile.po,kC_Tile.sa⟩,n_Tile_rows⟩
      · cases hf
    · exact fun c t b hs=>clsT (t:=t) TS hs gn tk
    · exact fun c t b hs ht=>((allT_look TS hs).2.2.1 ht).2
    · exact fun c t b hs ht=>(allT_look TS hs).2.2.2 ht
    · exact fun t c b hs ht TT hTT=>tyT (c:=c) TS hs ht hTT
    · exact fun c hc=>nomatch (show false=true from hc)
    · intro wd hw
      simp only [prog] at hw
      cases hw
    · exact fun t ht=>nomatch (show false=true from ht)
    · exact fun c t b hs=>nomatch (show none=some b from hs)
    · exact fun f ds h=>nomatch (show false=true from h)
    · exact fun c m f hm _=>methsT TM hm
    · exact fun c hc=>nomatch (show false=true from hc)
    · intro x i hx
      simp only [prog] at hx
      cases hx
    · exact fun h=>nomatch (show false=true from h)
  exact ⟨PySem.W.fnOf "law" "law" (defArgs t_law) (defBody t_law) (defScope t_law) .none kV_law dc_law pm_law an_law cv_law ct_law,fun s v=>.of_eq rfl,fun base kb _=>law_fn (n:=3) T kb (fun z=>absurd rfl z) Fl rfl b_law (fun ns hl=>MP.run_law 0 ns hl)⟩
end SD
open PySem PySem.W PyProof.Rows L2 L3 M3 SD
set_option maxRecDepth 100000 in
set_option maxHeartbeats 0 in
theorem PySem.Challenge.cw_dotscreen_k14_nearest_holds : PySem.Challenge.rw_dotscreen_k14_nearest.Holds := by
  w_on; o_law; k_head; (case hw=>w_witness2)
  k_fill
  refine SD.walk (l:=PySem.Challenge.rw_dotscreen_k14_nearest) (k:=8) rfl rfl ⟨rfl,by decide,by decide⟩ (fun w h Y=>PySem.W.kIn_of Y) ?F
  case F =>
    intro w mg fa h KX G hmg
    refine' SD.all_mk KX G hmg ?s0 ?s1 ?s2 ?s3 ?s4 ?s5 ?s6 ?s7 ?s8 ?s9 ?s10 ?s11 ?s12 ?s13 ?s14 ?s15 ?s16 ?s17 ?s18 ?s19 ?s20 ?s21  ?x0 ?x1 ?x2 ?x3 ?x4 ?x5 ?x6 ?x7 ?x8 ?x9 ?x10 ?x11
    (case s0 | s21 =>
      try dsimp only [L2.KOf]
      refine' SD.src_mk KX G (fun _ _ _ _ _ _ us hl=>by obtain ⟨_,rfl⟩:=SD.ln1 hl; rfl) ?a ?l ?c ?k
      (case a | l | c | k=>k_is))
    (case s1 | s3 | s11 =>
      try dsimp only [L2.KOf]
      refine' SD.src_mk KX G (fun _ _ _ _ _ _ us hl=>by obtain ⟨_,_,_,rfl⟩:=SD.ln3 hl; rfl) ?a ?l ?c ?k
      (case a | l | c | k=>k_is))
    (case s2 | s4 | s5 | s7 | s8 | s9 | s10 | s12 | s13 | s14 | s17 | s18 | s19 | s20 =>
      try dsimp only [L2.KOf]
      refine' SD.src_mk KX G (fun _ _ _ _ _ _ us hl=>by obtain ⟨_,_,rfl⟩:=SD.ln2 hl; rfl) ?a ?l ?c ?k
      (case a | l | c | k=>k_is))
    (case s6 | s16 =>
      try dsimp only [L2.KOf]
      refine' SD.src_mk KX G (fun _ _ _ _ _ _ us hl=>by obtain ⟨_,_,_,_,rfl⟩:=SD.ln4 hl; rfl) ?a ?l ?c ?k
      (case a | l | c | k=>k_is))
    (case s15 =>
      try dsimp only [L2.KOf]
      refine' SD.src_mk KX G (fun _ _ _ _ _ _ us hl=>by obtain ⟨_,_,_,_,_,rfl⟩:=SD.ln5 hl; rfl) ?a ?l ?c ?k
      (case a | l | c | k=>k_is))
    (case x3=>
      refine' SD.CK.mk ?a ?b ?c ?d ?e ?f ?g ?h ?i ?j ?k ?l ?m ?n ?o ?z
      (case a | b | c | d | e | f | g | h | i | j | k | l | m | n | o | z=>k_is))
    (case x1 | x2 | x4 | x5 | x8 | x9 | x10 | x11=>k_is)
    (case x6=>
      refine' SD.IK.mk ?a ?b ?c
      (case a | b | c=>k_is))
    (case x7=>
      refine' ⟨_,_,_,_,_,_,_,_,_,SD.FK.mk ?a ?b ?c ?d⟩
      (case a | b | c | d=>k_is))
    (case x0=>intro z hz; simp only [List.mem_cons,List.not_mem_nil,or_false] at hz; rcases hz with rfl | rfl | rfl | rfl | rfl | rfl | rfl | rfl | rfl | rfl | rfl | rfl | rfl | rfl | rfl | rfl | rfl | rfl | rfl | rfl <;> k_is)
end
