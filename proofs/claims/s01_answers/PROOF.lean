import PyProof.Rows.All
import VbpoalSpec
import Wide.All
import OpenK.AllK
import Wide.FinOn
import PyProof.EqAt
import PyProof.EqKinds
import PyProof.TupleCall
import KE.BitLaws
import Open.SpecLaws
import KE.OsHead
import KE.OsGo
import PySem.Challenge.RW_postclear_s01_answers
import KE.KEqDeep
import PyFlat
import PyVbpoal
import KE.KLam
import KE.KMinKey
import KE.KDictOf
import KE.KDictList
import KE.SpHead
import KE.OsShapes
set_option Elab.async false
set_option linter.all false
set_option maxRecDepth 100000
set_option maxHeartbeats 8000000
open Nat (le_of_eq le_of_lt le_succ le_succ_of_le le_trans lt_irrefl lt_of_lt_of_le lt_succ_self ne_of_gt ne_of_lt not_lt_zero pow_succ succ_le_succ succ_lt_succ testBit testBit_and toDigits two_pow_pos zero_le)
open List (all_eq_true any_cons append_nil filter_append filter_cons find?_cons foldl_append getElem?_map length_append length_cons length_drop length_filter_le length_map length_range length_set length_take lookup_cons map_append map_congr_left map_cons map_id map_map map_nil mem_append mem_append_left mem_append_right mem_cons mem_cons_of_mem mem_cons_self mem_filter mem_map mem_of_getElem? mem_range mem_singleton nodup_cons replicate size_toArray take_length take_of_length_le take_zero zipWith)
open Bool (and_eq_true noConfusion or_eq_true)
open Vbpoal (Ans Bytes House Line MOST PAYMENTS STATEMENTS added aged behind chars decimal doSend fullOf houseAt inside isDigit isHouse lineText meanOf noHouse numberIn partsOf paymentRow rateOf readLine readLines readOne readTold setStatement spaced summed threes toldText valueOf worthOf yes)
open PySem.W (CodeHd callWith_K codeIn emptyDict findIn fnOf hasDictIn instObj isFn ke_shaped_ints keepIn kla_fn kla_obj lookIn makesIn methodObj mg_none_of mg_of nsIn plainGet plainGet_of plainOver tabObj takerIn)
open PySem.Heap (Ns SameBut get?_push_of_some get?_push_size lt_size size_push)
open Array (length_toList)
open Int (mul_assoc mul_comm natCast_mul toNat_natCast toNat_of_nonneg)
open Option (map_eq_some_iff map_some)
open VbpoalNeutral (asked bytes? flat)
theorem lb {a b:Nat}(h:Nat.ble a b=true):a<=b:=Nat.le_of_ble_eq_true h
namespace Pc
def sm:List Int->(Nat->Bool)->Int
 |[],_=>0
 |a::v,S=>(if S 0=true then a else 0)+sm v λi=>S (i+1)
def sd (S G:Nat->Bool):Nat->Bool:=λi=>S i&&!G i
def fV (G S:Nat->Bool):Prop:=∀i,G i=true->S i=true
theorem bY {S G:Nat->Bool}{i:Nat}:sd S G i=true↔S i=true/\G i=false:=by unfold sd;cases S i<;>cases G i<;>simp
theorem fA:∀(v:List Int) {G S:Nat->Bool},fV G S->sm v S=sm v G+sm v (sd S G)
 |[],_,_,_=>rfl
 |a::v,G,S,h=>by have ih:sm v (λi=>S (i+1))=sm v (λi=>G (i+1))+sm v (λi=>S (i+1)&&!G (i+1)):=fA v λi=>h (i+1);show(if S 0=true then a else 0)+sm v (λi=>S (i+1))=((if G 0=true then a else 0)+sm v λi=>G (i+1))+((if (S 0&&!G 0)=true then a else 0)+sm v (λi=>S (i+1)&&!G (i+1)));rw[ih];have h0:=h 0;cases hG:G 0<;>cases hS:S 0<;>simp_all<;>omega
theorem rB:∀(v:List Int) {S:Nat->Bool},(∀i,i<v.length->S i=false)->sm v S=0
 |[],_,_=>rfl
 |a::v,S,h=>by
  show(if S 0=true then a else 0)+sm v (λi=>S (i+1))=0;rw[h 0 (Nat.zero_lt_succ _),rB v λi hi=>h (i+1) (succ_lt_succ hi)]
  rfl
def Ne (m:Nat)(S:Nat->Bool):Prop:=∃i,i<m/\S i=true
theorem zr {v:List Int}{S:Nat->Bool}(h:sm v S≠0):Ne v.length S:=by
 apply Classical.byContradiction;intro q;refine h (rB v λi hi=>?_);cases e:S i with
 |false=>rfl
 |true=>exact absurd ⟨i,hi,e⟩ q
def lV (v:List Int):Nat->(Nat->Bool)->Prop
 |0,_=>True
 |n+1,S=>∃G,fV G S/\Ne v.length G/\sm v G=0/\lV v n (sd S G)
theorem lV.mono {v:List Int}:∀{n:Nat} {S T:Nat->Bool},fV S T->lV v n S->lV v n T
 |0,_,_,_,_=>trivial
 |n+1,S,T,h,⟨G,h1,h2,h3,h4⟩=>⟨G,λi hi=>h i (h1 i hi),h2,h3,lV.mono (λi hi=>by
   obtain⟨a,b⟩:=bY.mp hi;exact bY.mpr ⟨h i a,b⟩) h4⟩
def gJ (v:List Int)(n:Nat)(S:Nat->Bool):Prop:=lV v n S/\∀k,lV v k S->k<=n
theorem gJ.uniq {v:List Int}{n n':Nat}{S:Nat->Bool}(h:gJ v n S)(h':gJ v n' S):n=n':=Nat.le_antisymm (h'.2 _ h.1) (h.2 _ h'.1)
theorem lV.left {v:List Int}:∀{n:Nat} {S T:Nat->Bool} {i:Nat},fV T S->i<v.length->S i=true->T i=false->sm v S=0->lV v n T->lV v (n+1) S
 |0,S,T,i,h,hi,hS,hT,h0,_=>⟨S,λ_ q=>q,⟨i,hi,hS⟩,h0,trivial⟩
 |n+1,S,T,i,h,hi,hS,hT,h0,⟨G,h1,h2,h3,h4⟩=>by
  have gS:fV G S:=λj hj=>h j (h1 j hj);have gi:G i=false:=by
   cases e:G i with
   |false=>rfl
   |true=>rw[h1 i e]at hT;cases hT
  have e:=fA v gS;refine⟨G,gS,h2,h3,lV.left (T:=sd T G) (i:=i) (λj hj=>?_) hi (bY.mpr ⟨hS,gi⟩) ?_ (by omega) h4⟩
  .obtain⟨a,b⟩:=bY.mp hj;exact bY.mpr ⟨h j a,b⟩
  .unfold sd;rw[hT];rfl
theorem lV.out {v:List Int}:∀{n:Nat} {S:Nat->Bool},sm v S≠0->lV v n S->∃i,i<v.length/\S i=true/\lV v n (sd S λj=>j==i)
 |0,S,h,_=>by obtain⟨i,hi,e⟩:=zr h;exact⟨i,hi,e,trivial⟩
 |n+1,S,h,⟨G,h1,h2,h3,h4⟩=>by
  have e:=fA v h1;obtain⟨i,hi,hs,hf⟩:=lV.out (S:=sd S G) (by omega) h4;obtain⟨a,b⟩:=bY.mp hs;refine⟨i,hi,a,G,λj hj=>bY.mpr ⟨h1 j hj,?_⟩,h2,h3,lV.mono (λj hj=>?_) hf⟩
  .cases q:j==i with
   |false=>rfl
   |true=>
    rw[beq_iff_eq]at q;rw[q,b]at hj;cases hj
  .obtain⟨a1,b1⟩:=bY.mp hj;obtain⟨a2,b2⟩:=bY.mp a1;exact bY.mpr ⟨bY.mpr ⟨a2,b1⟩,b2⟩
theorem lV.at_ {v:List Int}:∀{n:Nat} {S:Nat->Bool} {x:Nat},sm v S=0->x<v.length->S x=true->lV v (n+1) S->∃G,fV G S/\G x=true/\sm v G=0/\lV v n (sd S G)
 |0,S,x,h0,hx,hs,_=>⟨S,λ_ q=>q,hs,h0,trivial⟩
 |n+1,S,x,h0,hx,hs,⟨G,h1,h2,h3,h4⟩=>by
  cases e:G x with
  |true=>exact⟨G,h1,e,h3,h4⟩
  |false=>
   have es:=fA v h1;obtain⟨G',g1,g2,g3,g4⟩:=lV.at_ (S:=sd S G) (x:=x) (by omega) hx (bY.mpr ⟨hs,e⟩) h4;refine⟨G',λi hi=>(bY.mp (g1 i hi)).1,g2,g3,G,λi hi=>bY.mpr ⟨h1 i hi,?_⟩,h2,h3,lV.mono (λj hj=>?_) g4⟩
   .cases q:G' i with
    |false=>rfl
    |true=>
     have:=(bY.mp (g1 i q)).2;rw[hi]at this;cases this
   .obtain⟨a1,b1⟩:=bY.mp hj;obtain⟨a2,b2⟩:=bY.mp a1;exact bY.mpr ⟨bY.mpr ⟨a2,b1⟩,b2⟩
theorem vt {v:List Int}{S:Nat->Bool}{M:Nat}(f:Nat->Nat)(hf:∀i,i<v.length->S i=true->gJ v (f i) (sd S λj=>j==i))(h1:∃i,i<v.length/\S i=true/\f i=M)(h2:∀i,i<v.length->S i=true->f i<=M) :
  gJ v (if sm v S=0 then M+1 else M) S:=by
 obtain⟨i0,hi0,hs0,e0⟩:=h1;have sub0:fV (sd S λj=>j==i0) S:=λj hj=>(bY.mp hj).1;have m0:=hf i0 hi0 hs0;rw[e0]at m0;by_cases h:sm v S=0
 .rw[if_pos h];refine⟨lV.left sub0 hi0 hs0 (by unfold sd;simp) h m0.1,λk hk=>?_⟩;cases k with
  |zero=>exact zero_le _
  |succ k=>
   obtain⟨G,g1,⟨i,hi,gi⟩,g3,g4⟩:=hk;have q:=(hf i hi (g1 i gi)).2 k (lV.mono (λj hj=>?_) g4)
   .have:=h2 i hi (g1 i gi);omega
   .obtain⟨a,b⟩:=bY.mp hj;refine bY.mpr ⟨a,?_⟩;cases q:j==i with
    |false=>rfl
    |true=>
     rw[beq_iff_eq]at q;rw[q,gi]at b;cases b
 .rw[if_neg h];refine⟨lV.mono sub0 m0.1,λk hk=>?_⟩;obtain⟨i,hi,si,fi⟩:=lV.out h hk;exact le_trans ((hf i hi si).2 k fi) (h2 i hi si)
theorem oa {v:List Int}{S:Nat->Bool}(h:∀i,i<v.length->S i=false):gJ v 0 S:=by
 refine⟨trivial,λk hk=>?_⟩;cases k with
 |zero=>exact Nat.le_refl _
 |succ k=>
  obtain⟨G,g1,⟨i,hi,gi⟩,_⟩:=hk;have:=h i hi;rw[g1 i gi]at this;cases this
def aF {α:Type}:(Nat->Bool)->List α->List α
 |_,[]=>[]
 |S,x::l=>if S 0=true then x::aF (λi=>S (i+1)) l else aF (λi=>S (i+1)) l
theorem ii {α:Type}:∀(l:List α) (S:Nat->Bool) {x:α},x∈aF S l->x∈l
 |[],_,_,h=>h
 |a::l,S,x,h=>by
  unfold aF at h;split at h
  .rcases mem_cons.mp h with e|h
   .rw[e];exact mem_cons_self
   .exact mem_cons_of_mem _ (ii l _ h)
  .exact mem_cons_of_mem _ (ii l _ h)
theorem og {α β:Type}(f:α->β):∀(l:List α) (S:Nat->Bool),aF S (l.map f)=(aF S l).map f
 |[],_=>rfl
 |a::l,S=>by show(if S 0=true then f a::aF (λi=>S (i+1)) (l.map f)else aF (λi=>S (i+1)) (l.map f))=(if S 0=true then a::aF (λi=>S (i+1)) l else aF (λi=>S (i+1)) l).map f;rw[og f l];split<;>rfl
theorem rD:∀(L:List (Nat×Int)) (S:Nat->Bool),sm (L.map (·.2)) S=Vbpoal.isum ((aF S L).map (·.2))
 |[],_=>rfl
 |a::L,S=>by
  show(if S 0=true then a.2 else 0)+sm (L.map (·.2)) (λi=>S (i+1))=Vbpoal.isum ((if S 0=true then a::aF (λi=>S (i+1)) L else aF (λi=>S (i+1)) L).map (·.2));rw[rD L];split
  .rfl
  .exact Int.zero_add _
theorem kF {α:Type}:∀(l:List α) {S T:Nat->Bool},(∀i,i<l.length->S i=T i)->aF S l=aF T l
 |[],_,_,_=>rfl
 |a::l,S,T,h=>by unfold aF;rw[h 0 (Nat.zero_lt_succ _),kF l (S:=λi=>S (i+1)) (T:=λi=>T (i+1)) λi hi=>h (i+1) (succ_lt_succ hi)]
theorem oh {α:Type}:∀(l:List α) {S:Nat->Bool},aF S l=[]->∀i,i<l.length->S i=false
 |[],_,_,i,hi=>absurd hi (not_lt_zero _)
 |a::l,S,h,i,hi=>by
  unfold aF at h;split at h
  .cases h
  .rename_i h0;cases i with
   |zero=>simpa using h0
   |succ i=>exact oh l h i (Nat.lt_of_succ_lt_succ hi)
theorem jT {α:Type}:∀(l:List α) {S:Nat->Bool} {x:α} {r:List α},aF S l=x::r->∃j,j<l.length/\S j=true/\(∀i,i<j->S i=false)/\l[j]?=some x/\r=aF (sd S λi=>i==j) l
 |[],_,_,_,h=>by cases h
 |a::l,S,x,r,h=>by
  unfold aF at h;split at h
  .rename_i h0;injection h with h1 h2;refine⟨0,Nat.zero_lt_succ _,h0,λi hi=>absurd hi (not_lt_zero _),by rw[h1];rfl,?_⟩;have e:sd S (λi=>i==0) 0=false:=by unfold sd;simp
   unfold aF;rw[if_neg (by rw[e];decide),<- h2];exact kF l λi _=>by unfold sd;simp
  .rename_i h0;obtain⟨j,j1,j2,j3,j4,j5⟩:=jT l h;refine⟨j+1,succ_lt_succ j1,j2,λi hi=>?_,j4,?_⟩
   .cases i with
    |zero=>simpa using h0
    |succ i=>exact j3 i (Nat.lt_of_succ_lt_succ hi)
   .have e:sd S (λi=>i==j+1) 0=false:=by
     have:S 0=false:=by simpa using h0
     unfold sd;rw[this];rfl
    unfold aF;rw[if_neg (by rw[e];decide),j5];exact kF l λi _=>by unfold sd;simp
open Vbpoal (subsets without even less better bestOf parted)
abbrev fO:=List (Nat×Int)
theorem oj:∀(L:fO) {G S:Nat->Bool},fV G S->aF G L∈subsets (aF S L)
 |[],_,_,_=>mem_singleton.mpr rfl
 |a::L,G,S,h=>by
  have ih:=oj L (G:=λi=>G (i+1)) (S:=λi=>S (i+1)) λi=>h (i+1);unfold aF;by_cases hS:S 0=true
  .rw[if_pos hS];show _∈subsets (aF (λi=>S (i+1)) L)++(subsets (aF (λi=>S (i+1)) L)).map λy=>a::y;by_cases hG:G 0=true
   .rw[if_pos hG];exact mem_append_right _ (mem_map.mpr ⟨_,ih,rfl⟩)
   .rw[if_neg hG];exact mem_append_left _ ih
  .rw[if_neg hS,if_neg (λq=>hS (h 0 q))];exact ih
theorem fW:∀(L:fO) {S:Nat->Bool} {t:fO},t∈subsets (aF S L)->∃g:Nat,g<2^L.length/\fV (testBit g) S/\t=aF (testBit g) L
 |[],S,t,h=>⟨0,by simp,λi hi=>by simp at hi,mem_singleton.mp h⟩
 |a::L,S,t,h=>by
  have tb:∀(b:Bool) (g:Nat),(λi=>testBit (2*g+b.toNat) (i+1))=testBit g:=λb g=>by
   funext i;rw[Nat.testBit_succ]
   congr 1
   cases b<;>simp<;>omega
  have t0:∀(b:Bool) (g:Nat),testBit (2*g+b.toNat) 0=b:=λb g=>by rw[Nat.testBit_zero];cases b<;>simp<;>omega
  have mk:∀(b:Bool) (g:Nat) (r:fO),(b=true->S 0=true)->g<2^L.length->fV (testBit g) (λi=>S (i+1))->r=aF (testBit g) L->
    ∃g:Nat,g<2^(a::L).length/\fV (testBit g) S/\(if b=true then a::r else r)=aF (testBit g) (a::L):=λb g r hb hg hs hr=>by
   refine⟨2*g+b.toNat,?_,λi hi=>?_,?_⟩
   .rw[length_cons,pow_succ];cases b<;>simp<;>omega
   .cases i with
    |zero=>rw[t0]at hi;exact hb hi
    |succ i=>exact hs i (by rw[<- tb b g];exact hi)
   .show _=if testBit (2*g+b.toNat) 0=true then a::aF (λi=>testBit (2*g+b.toNat) (i+1)) L else aF (λi=>testBit (2*g+b.toNat) (i+1)) L
    rw[t0,tb,hr]
  unfold aF at h;by_cases hS:S 0=true
  .rw[if_pos hS]at h;have h:t∈subsets (aF (λi=>S (i+1)) L)++(subsets (aF (λi=>S (i+1)) L)).map λy=>a::y:=h;rcases mem_append.mp h with h|h
   .obtain⟨g,g1,g2,g3⟩:=fW L h;exact mk false g t (λq=>by cases q) g1 g2 g3
   .obtain⟨y,hy,rfl⟩:=mem_map.mp h;obtain⟨g,g1,g2,g3⟩:=fW L hy;exact mk true g y (λ_=>hS) g1 g2 g3
  .rw[if_neg hS]at h;obtain⟨g,g1,g2,g3⟩:=fW L h;exact mk false g t (λq=>by cases q) g1 g2 g3
theorem iF:∀(L:fO) {G S:Nat->Bool},(L.map (·.1)).Nodup->without (aF S L) (aF G L)=aF (sd S G) L
 |[],_,_,_=>rfl
 |a::L,G,S,hn=>by
  have hn:a.1∉L.map (·.1)/\(L.map (·.1)).Nodup:=nodup_cons.mp hn;have ih:without (aF (λi=>S (i+1)) L) (aF (λi=>G (i+1)) L)=aF (λi=>S (i+1)&&!G (i+1)) L:=iF L hn.2;have no:∀(T:Nat->Bool),(aF T L).any (λy=>y.1==a.1)=false:=λT=>by
   cases e:(aF T L).any (λy=>y.1==a.1)with
   |false=>rfl
   |true=>
    obtain⟨y,hy,q⟩:=List.any_eq_true.mp e;exact absurd (mem_map.mpr ⟨y,ii L T hy,beq_iff_eq.mp q⟩) hn.1
  have drop:∀(T T':Nat->Bool),without (aF T L) (a::aF T' L)=without (aF T L) (aF T' L):=λT T'=>by
   unfold without;refine List.filter_congr λx hx=>?_;have:(a.1==x.1)=false:=by
    cases e:a.1==x.1 with
    |false=>rfl
    |true=>exact absurd (mem_map.mpr ⟨x,ii L T hx,(beq_iff_eq.mp e).symm⟩) hn.1
   rw[any_cons,this];rfl
  show without (if S 0=true then a::aF (λi=>S (i+1)) L else aF (λi=>S (i+1)) L) (if G 0=true then a::aF (λi=>G (i+1)) L else aF (λi=>G (i+1)) L)
   = if (S 0&&!G 0)=true then a::aF (λi=>S (i+1)&&!G (i+1)) L else aF (λi=>S (i+1)&&!G (i+1)) L
  rw[<- ih];cases hS:S 0<;>cases hG:G 0
  .rfl
  .exact drop _ _
  .show without (a::aF (λi=>S (i+1)) L) (aF (λi=>G (i+1)) L)=a::_;unfold without;rw[filter_cons,no];rfl
  .show without (a::aF (λi=>S (i+1)) L) (a::aF (λi=>G (i+1)) L)=_;rw[<- drop];unfold without;rw[filter_cons,any_cons];have:(a.1==a.1)=true:=beq_self_eq_true _;rw[this];rfl
theorem lW {p q:List fO}(h:better p q=true):q.length<=p.length:=by unfold better at h;simp only[or_eq_true,and_eq_true,decide_eq_true_eq,beq_iff_eq]at h;omega
theorem qf {p q:List fO}(h:q.length<p.length):better p q=true:=by unfold better;rw[decide_eq_true h];rfl
theorem kU:∀(l:List (List fO)),l≠[]->bestOf l∈l
 |[],h=>absurd rfl h
 |[p],_=>mem_singleton.mpr rfl
 |p::q::l,_=>by
  have ih:=kU (q::l) (by simp);show(if better (bestOf (q::l)) p=true then bestOf (q::l)else p)∈_;split
  .exact mem_cons_of_mem _ ih
  .exact mem_cons_self
theorem tw:∀(l:List (List fO)) {p:List fO},p∈l->p.length<=(bestOf l).length
 |[],_,h=>by cases h
 |[p],_,h=>by rw[mem_singleton.mp h];exact Nat.le_refl _
 |p::q::l,p',h=>by
  have ih:=λ{p'}=>tw (q::l) (p:=p');show _<=(if better (bestOf (q::l)) p=true then bestOf (q::l)else p).length;split
  .rename_i hb;rcases mem_cons.mp h with e|h
   .rw[e];exact lW hb
   .exact ih h
  .rename_i hb;rcases mem_cons.mp h with e|h
   .rw[e];exact Nat.le_refl _
   .refine le_trans (ih h) ?_;apply Classical.byContradiction;intro q;exact hb (qf (by omega))
theorem om:∀(a b:fO),less a b=true->less b a=false
 |[],_,h=>by cases h
 |_::_,[],h=>by cases h
 |x::l,y::m,h=>by
  have h:(decide (x.1<y.1)||(x.1==y.1&&less l m))=true:=h;show(decide (y.1<x.1)||(y.1==x.1&&less m l))=false;simp only[or_eq_true,and_eq_true,decide_eq_true_eq,beq_iff_eq]at h;rcases h with h|⟨h1,h2⟩
  .have a:¬y.1<x.1:=by omega
   have b:¬y.1=x.1:=by omega
   simp[a,b]
  .rw[om l m h2];have a:¬y.1<x.1:=by omega
   simp[a]
theorem rE {p q:List fO}(h:better p q=true):better q p=false:=by
 cases e:better q p with
 |false=>rfl
 |true=>
  have h1:=lW h;have h2:=lW e;unfold better at h e;simp only[or_eq_true,and_eq_true,decide_eq_true_eq,beq_iff_eq]at h e;rcases h with h|⟨_,h|⟨_,h⟩⟩
  .omega
  .rcases e with e|⟨_,e|⟨_,e⟩⟩<;>omega
  .rcases e with e|⟨_,e|⟨_,e⟩⟩
   .omega
   .omega
   .rw[om _ _ h]at e;cases e
theorem wH:∀(l:List (List fO)) {p:List fO},p∈l->(∀q∈l,q=p\/better p q=true)->bestOf l=p
 |[],_,h,_=>by cases h
 |[q],p,h,_=>(mem_singleton.mp h).symm
 |a::b::l,p,h,hb=>by
  show(if better (bestOf (b::l)) a=true then bestOf (b::l)else a)=p;by_cases hm:p∈b::l
  .rw[wH (b::l) hm λq hq=>hb q (mem_cons_of_mem _ hq)];split
   .rfl
   .rename_i hn;rcases hb a mem_cons_self with e|e
    .exact e
    .exact absurd e hn
  .have ea:p=a:=(mem_cons.mp h).resolve_right hm;subst ea;have hr:=kU (b::l) (by simp);rcases hb _ (mem_cons_of_mem _ hr)with e|e
   .rw[e];split<;>rfl
   .rw[rE e];rfl
theorem zt:∀(v:List Int) (j:Nat),sm v (λi=>i==j)=v.getD j 0
 |[],j=>rfl
 |a::v,0=>by show(if (0==0)=true then a else 0)+sm v (λi=>i+1==0)=a;have e:sm v (λi=>i+1==0)=0:=rB v λi _=>rfl;rw[e];exact Int.add_zero _
 |a::v,j+1=>by
  show(if (0==j+1)=true then a else 0)+sm v (λi=>i+1==j+1)=v.getD j 0;have e:(λi=>i+1==j+1)=λi=>i==j:=by
   funext i;cases h:i==j with
   |true=>rw[beq_iff_eq]at h ⊢;omega
   |false=>rw[beq_eq_false_iff_ne]at h ⊢;omega
  rw[e,zt v j];exact Int.zero_add _
theorem wI {v:List Int}{S:Nat->Bool}{j:Nat}(h:S j=true):sm v S=v.getD j 0+sm v (sd S λi=>i==j):=by rw[<- zt];exact fA v λi hi=>by rw[beq_iff_eq.mp hi];exact h
theorem qg {L:fO}{x:Nat×Int}{T:Nat->Bool}:even (x::aF T L)=true↔x.2+sm (L.map (·.2)) T=0:=by rw[rD];show(x.2+Vbpoal.isum ((aF T L).map λx=>x.2)==0)=true↔_;exact beq_iff_eq
theorem on {α:Type}{l:List α}{S:Nat->Bool}{j:Nat}{x:α}(h:S j=true)(h1:∀i,i<j->S i=false)(hx:l[j]?=some x):aF S l=x::aF (sd S λi=>i==j) l:=by
 have hj:j<l.length:=by obtain⟨h,_⟩:=List.getElem?_eq_some_iff.mp hx;exact h
 cases e:aF S l with
 |nil=>rw[oh l e j hj]at h;cases h
 |cons y r=>
  obtain⟨j',k1,k2,k3,k4,k5⟩:=jT l e;have:j=j':=by
   rcases Nat.lt_trichotomy j j' with q|q|q
   .rw[k3 j q]at h;cases h
   .exact q
   .rw[h1 j' q]at k2;cases k2
  subst this;rw[hx]at k4;rw[Option.some.inj k4,k5]
section
variable {L:fO}
abbrev bV (L:fO):List Int:=L.map (·.2)
theorem jo (k:Nat)(x:Nat×Int)(l:fO):parted (k+1) (x::l)=bestOf (((subsets l).filter λt=>even (x::t)).map λt=>(x::t)::parted k (without l t)):=rfl
theorem qh {j:Nat}{x:Nat×Int}(h:L[j]?=some x):(bV L).getD j 0=x.2:=by unfold bV;rw[List.getD_eq_getElem?_getD,getElem?_map,h];rfl
theorem tz {S:Nat->Bool}{x:Nat×Int}{j:Nat}{t:fO}(hn:(L.map (·.1)).Nodup)(hx:L[j]?=some x)(hj:S j=true)(h:t∈(subsets (aF (sd S λi=>i==j) L)).filter λt=>even (x::t)) :
  ∃g:Nat,g<2^L.length/\fV (testBit g) S/\testBit g j=true/\t=aF (sd (testBit g) λi=>i==j) L/\sm (bV L) (testBit g)=0/\without (aF (sd S λi=>i==j) L) t=aF (sd S (testBit g)) L:=by
 obtain⟨h1,h2⟩:=mem_filter.mp h;obtain⟨g,g1,g2,g3⟩:=fW L h1;have jl:j<L.length:=(List.getElem?_eq_some_iff.mp hx).1;have tb:∀i,testBit (g ||| 2^j) i=(testBit g i||i==j):=λi=>by
  rw[Nat.testBit_or,Nat.testBit_two_pow]
  congr 1
  cases q:i==j with
  |true=>rw[beq_iff_eq.mp q];simp
  |false=>rw[beq_eq_false_iff_ne]at q;exact decide_eq_false (λe=>q e.symm)
 have gj:testBit g j=false:=by
  cases e:testBit g j with
  |false=>rfl
  |true=>have:=(bY.mp (g2 j e)).2;simp at this
 have es:sd (testBit (g ||| 2^j)) (λi=>i==j)=testBit g:=by
  funext i;show(testBit (g ||| 2^j) i&&!(i==j))=_;rw[tb];cases q:i==j with
  |true=>rw[beq_iff_eq.mp q,gj];rfl
  |false=>cases testBit g i<;>rfl
 refine⟨g ||| 2^j,Nat.or_lt_two_pow g1 (Nat.pow_lt_pow_right (by decide) jl),λi hi=>?_,by rw[tb];simp,by rw[es];exact g3,?_,?_⟩
 .rw[tb,or_eq_true]at hi;rcases hi with hi|hi
  .exact(bY.mp (g2 i hi)).1
  .rw[beq_iff_eq.mp hi];exact hj
 .rw[wI (j:=j) (by rw[tb];simp),es,qh hx];rw[g3]at h2;exact qg.mp h2
 .rw[g3,iF L hn]
  congr 1
  funext i;show((S i&&!(i==j))&&!Nat.testBit g i)=(S i&&!Nat.testBit (g ||| 2^j) i);rw[tb];cases S i<;>cases i==j<;>cases testBit g i<;>rfl
theorem oo {S G:Nat->Bool}{x:Nat×Int}{j:Nat}(hn:(L.map (·.1)).Nodup)(hx:L[j]?=some x)(hs:fV G S)(hj:G j=true)(h0:sm (bV L) G=0) :
  aF (sd G λi=>i==j) L∈(subsets (aF (sd S λi=>i==j) L)).filter (λt=>even (x::t))/\without (aF (sd S λi=>i==j) L) (aF (sd G λi=>i==j) L)=aF (sd S G) L:=by
 refine⟨mem_filter.mpr ⟨oj L λi hi=>?_,qg.mpr ?_⟩,?_⟩
 .obtain⟨a,b⟩:=bY.mp hi;exact bY.mpr ⟨hs i a,b⟩
 .rw[wI hj,qh hx]at h0;exact h0
 .rw[iF L hn]
  congr 1
  funext i;show((S i&&!(i==j))&&!(G i&&!(i==j)))=(S i&&!G i);cases e:i==j with
  |true=>rw[beq_iff_eq.mp e,hj];simp
  |false=>cases S i<;>cases G i<;>rfl
theorem jp {S G:Nat->Bool}{j:Nat}{x:Nat×Int}(hx:L[j]?=some x)(hs:fV G S)(hj:G j=true):(aF (sd S G) L).length<(aF S L).length:=by
 have key:∀(l:fO) (S T:Nat->Bool),fV T S->(aF T l).length<=(aF S l).length/\(∀j,j<l.length->S j=true->T j=false->(aF T l).length<(aF S l).length):=by
  intro l
  induction l with
  |nil=>exact λS T _=>⟨Nat.le_refl _,λj hj=>absurd hj (not_lt_zero _)⟩
  |cons a l ih=>
   intro S T h;obtain⟨i1,i2⟩:=ih (λi=>S (i+1)) (λi=>T (i+1)) λi=>h (i+1);unfold aF;cases eS:S 0<;>cases eT:T 0
   .refine⟨i1,λj hj s t=>?_⟩;cases j with
    |zero=>rw[eS]at s;cases s
    |succ j=>exact i2 j (Nat.lt_of_succ_lt_succ hj) s t
   .rw[h 0 eT]at eS;cases eS
   .refine⟨le_succ_of_le i1,λj hj s t=>Nat.lt_succ_of_le i1⟩
   .refine⟨succ_le_succ i1,λj hj s t=>?_⟩;cases j with
    |zero=>rw[eT]at t;cases t
    |succ j=>exact succ_lt_succ (i2 j (Nat.lt_of_succ_lt_succ hj) s t)
 exact(key L S (sd S G) λi hi=>(bY.mp hi).1).2 j (List.getElem?_eq_some_iff.mp hx).1 (hs j hj) (by unfold sd;rw[hj];simp)
theorem oq (hn:(L.map (·.1)).Nodup):∀(k:Nat) (S:Nat->Bool),(aF S L).length<k->sm (bV L) S=0->gJ (bV L) (parted k (aF S L)).length S
 |0,_,h,_=>absurd h (not_lt_zero _)
 |k+1,S,h,h0=>by
  have ih:=oq hn k;have lv:(bV L).length=L.length:=length_map _;cases e:aF S L with
  |nil=>exact oa λi hi=>oh L e i (by omega)
  |cons x r=>
   obtain⟨j,j1,j2,j3,j4,rfl⟩:=jT L e;rw[jo];rw[e]at h;have each:∀{G:Nat->Bool},fV G S->G j=true->gJ (bV L) (parted k (aF (sd S G) L)).length (sd S G)\/sm (bV L) G≠0:=λ{G} hs hj=>by
    by_cases hz:sm (bV L) G=0
    .have lt:=jp j4 hs hj;rw[e]at lt;have sp:=fA (bV L) hs;exact .inl (ih (sd S G) (by omega) (by omega))
    .exact .inr hz
   have ne:(((subsets (aF (sd S λi=>i==j) L)).filter λt=>even (x::t)).map λt=>(x::t)::parted k (without (aF (sd S λi=>i==j) L) t))≠[]:=by intro q;have m:=(oo (G:=S) (S:=S) hn j4 (λ_ q=>q) j2 h0).1;rw[List.map_eq_nil_iff.mp q]at m;cases m
   have bm:=kU _ ne;obtain⟨t,ht,hb⟩:=mem_map.mp bm;obtain⟨g,g1,g2,g3,g4,g5,g6⟩:=tz hn j4 j2 ht;refine⟨?_,λn hf=>?_⟩
   .rw[<- hb,g6];have m:=(each g2 g3).resolve_right (λq=>q g5);exact⟨testBit g,g2,⟨j,by omega,g3⟩,g5,m.1⟩
   .cases n with
    |zero=>exact zero_le _
    |succ n=>
     obtain⟨G,p1,p2,p3,p4⟩:=lV.at_ h0 (by omega) j2 hf;obtain⟨r1,r2⟩:=oo hn j4 p1 p2 p3;have le:=tw _ (List.mem_map_of_mem (f:=λt=>(x::t)::parted k (without (aF (sd S λi=>i==j) L) t)) r1);rw[r2]at le;have m:=((each p1 p2).resolve_right (λq=>q p3)).2 n p4;exact le_trans (succ_le_succ m) le
def ou (a b:fO):Prop:=a.length<b.length\/(a.length=b.length/\less a b=true)
theorem ow:∀(a b:fO),a.length=b.length->less a b=false->less b a=false->a.map (·.1)=b.map (·.1)
 |[],[],_,_,_=>rfl
 |[],_::_,h,_,_=>by cases h
 |_::_,[],h,_,_=>by cases h
 |x::l,y::m,h,h1,h2=>by
  have h1:(decide (x.1<y.1)||(x.1==y.1&&less l m))=false:=h1;have h2:(decide (y.1<x.1)||(y.1==x.1&&less m l))=false:=h2;rw[Bool.or_eq_false_iff,decide_eq_false_iff_not]at h1 h2;have e:x.1=y.1:=by omega
  have b1:less l m=false:=by have:=h1.2;rw[e]at this;simpa using this
  have b2:less m l=false:=by have:=h2.2;rw[e]at this;simpa using this
  show x.1::l.map (·.1)=y.1::m.map (·.1);rw[e,ow l m (Nat.succ.inj h) b1 b2]
theorem zu (hn:(L.map (·.1)).Nodup):∀{a b:fO},(∀x∈a,x∈L)->(∀x∈b,x∈L)->a.map (·.1)=b.map (·.1)->a=b
 |[],[],_,_,_=>rfl
 |[],_::_,_,_,h=>by cases h
 |_::_,[],_,_,h=>by cases h
 |x::a,y::b,ha,hb,h=>by
  have h:x.1::a.map (·.1)=y.1::b.map (·.1):=h;injection h with h1 h2;have e:x=y:=by
   have key:∀{l:fO} {x y:Nat×Int},(l.map (·.1)).Nodup->x∈l->y∈l->x.1=y.1->x=y:=by
    intro l
    induction l with
    |nil=>intro x y _ h;cases h
    |cons z l ih=>
     intro x y hn hx hy q;have hn:z.1∉l.map (·.1)/\(l.map (·.1)).Nodup:=nodup_cons.mp hn;rcases mem_cons.mp hx with e|hx
     .rcases mem_cons.mp hy with e'|hy
      .rw[e,e']
      .exact absurd (mem_map.mpr ⟨y,hy,by rw[<- q,e]⟩) hn.1
     .rcases mem_cons.mp hy with e'|hy
      .exact absurd (mem_map.mpr ⟨x,hx,by rw[q,e']⟩) hn.1
      .exact ih hn.2 hx hy q
   exact key hn (ha x mem_cons_self) (hb y mem_cons_self) h1
  rw[e,zu hn (λz hz=>ha z (mem_cons_of_mem _ hz)) (λz hz=>hb z (mem_cons_of_mem _ hz)) h2]
theorem vv (hn:(L.map (·.1)).Nodup){a b:fO}(ha:∀x∈a,x∈L)(hb:∀x∈b,x∈L)(h:¬ou a b):a=b\/ou b a:=by
 unfold ou at h ⊢;by_cases hl:a.length=b.length
 .cases e:less b a with
  |true=>exact .inr (.inr ⟨hl.symm,rfl⟩)
  |false=>
   refine .inl (zu hn ha hb (ow a b hl ?_ e));cases q:less a b with
   |false=>rfl
   |true=>exact absurd (.inr ⟨hl,q⟩) h
 .exact .inr (.inl (by omega))
structure rF (L:fO)(left:Nat->Bool)(j:Nat)(c:Nat):Prop where
 sub:fV (testBit c) left
 has:testBit c j=true
 zero:sm (bV L) (testBit c)=0
 most:∃n,gJ (bV L) n (sd left (testBit c))/\gJ (bV L) (n+1) left
theorem vw {left:Nat->Bool}{j:Nat}{x:Nat×Int}{c k:Nat}(hn:(L.map (·.1)).Nodup)(hx:L[j]?=some x)(hj:left j=true)(h1:∀i,i<j->left i=false)(h0:sm (bV L) left=0)(hk:(aF left L).length<k+1)
  (hc:rF L left j c) (hm:∀g,g<2^L.length->rF L left j g->¬ou (aF (testBit g) L) (aF (testBit c) L)) :
  parted (k+1) (aF left L)=aF (testBit c) L::parted k (aF (sd left (testBit c)) L):=by
 have first:∀{g:Nat},fV (testBit g) left->testBit g j=true->aF (testBit g) L=x::aF (sd (testBit g) λi=>i==j) L:=λ{g} hs hg=>on hg (λi hi=>by
  cases e:testBit g i with
  |false=>rfl
  |true=>have:=h1 i hi;rw[hs i e]at this;cases this) hx
 have ex:=on hj h1 hx;rw[ex]at hk ⊢;rw[jo];have lens:∀{g:Nat},fV (testBit g) left->testBit g j=true->sm (bV L) (testBit g)=0->gJ (bV L) (parted k (aF (sd left (testBit g)) L)).length (sd left (testBit g)):=λ{g} hs hg hz=>by have lt:=jp hx hs hg;rw[ex]at lt;have sp:=fA (bV L) hs;exact oq hn k _ (by omega) (by omega)
 obtain⟨n,m1,m2⟩:=hc.most;have len0:(parted k (aF (sd left (testBit c)) L)).length=n:=(lens hc.sub hc.has hc.zero).uniq m1;obtain⟨r1,r2⟩:=oo (L:=L) (S:=left) hn hx hc.sub hc.has hc.zero;rw[first hc.sub hc.has];refine wH _ (mem_map.mpr ⟨_,r1,by rw[r2]⟩) λq hq=>?_;obtain⟨t,ht,rfl⟩:=mem_map.mp hq;obtain⟨g,g1,g2,g3,g4,g5,g6⟩:=tz hn hx hj ht;rw[g6,g4,<- first g2 g3,<- first hc.sub hc.has];have mg:=lens g2 g3 g5;have lv:(bV L).length=L.length:=length_map _;have le:(parted k (aF (sd left (testBit g)) L)).length+1<=n+1:=m2.2 _ ⟨testBit g,g2,⟨j,by rw[lv];exact(List.getElem?_eq_some_iff.mp hx).1,g3⟩,g5,mg.1⟩;by_cases el:(parted k (aF (sd left (testBit g)) L)).length=n
 .have cg:rF L left j g:=⟨g2,g3,g5,n,by rw[<- el];exact mg,m2⟩
  rcases vv hn (λz hz=>ii L _ hz) (λz hz=>ii L _ hz) (hm g g1 cg)with e|e
  .left;rw[e]
   congr 1
   have:=first g2 g3
   rw[e,first hc.sub hc.has]at this;injection this with _ this;rw[<- r2,<- g6,g4,this]
  .right;unfold better;have ll:((aF (testBit c) L::parted k (aF (sd left (testBit c)) L)).length==(aF (testBit g) L::parted k (aF (sd left (testBit g)) L)).length)=true:=by rw[beq_iff_eq,length_cons,length_cons,len0,el]
   rw[ll];show(_||(true&&(decide ((aF (testBit c) L).length<(aF (testBit g) L).length)||((aF (testBit c) L).length==(aF (testBit g) L).length&&less (aF (testBit c) L) (aF (testBit g) L)))))=true;rcases e with e|⟨e1,e2⟩
   .rw[decide_eq_true e];simp
   .rw[e1,e2];simp
 .right;refine qf ?_;rw[length_cons,length_cons,len0];omega
end
theorem zk (a:Nat)(b:Bool):testBit (2*a+b.toNat) 0=b:=by rw[Nat.testBit_zero];cases b<;>simp<;>omega
theorem zl (a i:Nat)(b:Bool):testBit (2*a+b.toNat) (i+1)=testBit a i:=by rw[Nat.testBit_succ];congr 1;cases b<;>simp<;>omega
theorem vx (c:Nat):∃(a:Nat) (b:Bool),c=2*a+b.toNat/\a=c / 2:=by
 refine⟨c / 2,decide (c%2=1),?_,rfl⟩;by_cases h:c%2=1
 .rw[decide_eq_true h];simp;omega
 .rw[decide_eq_false h];simp;omega
theorem ox:∀(n c g:Nat),c<n->fV (testBit g) (testBit c)->g<=c/\∀i,testBit (c-g) i=sd (testBit c) (testBit g) i
 |0,c,g,h,_=>absurd h (not_lt_zero _)
 |n+1,c,g,h,hs=>by
  obtain⟨a,b,ec,ea⟩:=vx c;obtain⟨a',b',eg,ea'⟩:=vx g;by_cases h0:c=0
  .have:g=0:=by
    apply Nat.eq_of_testBit_eq;intro i;rw[Nat.zero_testBit];cases e:testBit g i with
    |false=>rfl
    |true=>have:=hs i e;rw[h0,Nat.zero_testBit]at this;cases this
   subst h0 this;exact⟨Nat.le_refl _,λi=>by unfold sd;simp⟩
  have hb:b'=true->b=true:=λq=>by have:=hs 0 (by rw[eg,zk];exact q);rw[ec,zk]at this;exact this
  obtain⟨l,r⟩:=ox n a a' (by omega) λi hi=>by have:=hs (i+1) (by rw[eg,zl];exact hi);rw[ec,zl]at this;exact this
  have e:c-g=2*(a-a')+(b&&!b').toNat:=by cases b<;>cases b'<;>simp at hb ec eg ⊢<;>omega
  refine⟨by cases b<;>cases b'<;>simp at hb ec eg<;>omega,λi=>?_⟩;rw[e];unfold sd;cases i with
  |zero=>rw[zk,ec,eg,zk,zk]
  |succ i=>rw[zl,r i,ec,eg,zl,zl];rfl
theorem gK {c g:Nat}(h:fV (testBit g) (testBit c)):testBit (c-g)=sd (testBit c) (testBit g):=funext (ox (c+1) c g (lt_succ_self _) h).2
theorem wJ {c g:Nat}(h:fV (testBit g) (testBit c)):g<=c:=(ox (c+1) c g (lt_succ_self _) h).1
theorem oy (j:Nat):testBit (2^j)=λi=>i==j:=by
 funext i;rw[Nat.testBit_two_pow];cases q:i==j with
 |true=>rw[beq_iff_eq.mp q];simp
 |false=>rw[beq_eq_false_iff_ne]at q;exact decide_eq_false λe=>q e.symm
theorem rG (c j:Nat):c &&& 2^j≠0↔testBit c j=true:=by
 constructor
 .intro h;cases e:testBit c j with
  |true=>rfl
  |false=>
   refine absurd ?_ h;apply Nat.eq_of_testBit_eq;intro i;rw[testBit_and,oy,Nat.zero_testBit];show(testBit c i&&(i==j))=false;cases q:i==j with
   |true=>rw[beq_iff_eq.mp q,e];rfl
   |false=>exact Bool.and_false _
 .intro h q;have:=congrArg (λn=>testBit n j) q;simp only[testBit_and,oy,Nat.zero_testBit,h]at this;simp at this
theorem wK {c left:Nat}:c &&& left=c↔fV (testBit c) (testBit left):=by
 constructor
 .intro h i hi;rw[<- h,testBit_and,and_eq_true]at hi;exact hi.2
 .intro h;apply Nat.eq_of_testBit_eq;intro i;rw[testBit_and];cases e:testBit c i with
  |false=>rfl
  |true=>rw[h i e];rfl
theorem vz:∀(n c:Nat),c<n->c≠0->∃j,testBit c j=true/\(∀i,i<j->testBit c i=false)/\c-(c &&& (c-1))=2^j/\(c &&& (c-1))<=c
 |0,c,h,_=>absurd h (not_lt_zero _)
 |n+1,c,h,h0=>by
  obtain⟨a,b,ec,_⟩:=vx c;cases b with
  |true=>
   have e1:c &&& (c-1)=2*a+false.toNat:=by
    have:c-1=2*a+false.toNat:=by rw[ec];simp
    rw[this];apply Nat.eq_of_testBit_eq;intro i;rw[testBit_and,ec];cases i with
    |zero=>rw[zk,zk];rfl
    |succ i=>rw[zl,zl,Bool.and_self]
   refine⟨0,by rw[ec,zk],λi hi=>absurd hi (not_lt_zero _),?_,Nat.and_le_left⟩;rw[e1,ec];simp
  |false=>
   simp at ec;have ha:a≠0:=by omega
   obtain⟨j,j1,j2,j3,j4⟩:=vz n a (by omega) ha;have ec':c=2*a+false.toNat:=by simpa using ec
   have e1:c &&& (c-1)=2*(a &&& (a-1))+false.toNat:=by
    have:c-1=2*(a-1)+true.toNat:=by rw[ec];simp;omega
    rw[this,ec'];apply Nat.eq_of_testBit_eq;intro i;rw[testBit_and];cases i with
    |zero=>rw[zk,zk,zk];rfl
    |succ i=>rw[zl,zl,zl,testBit_and]
   refine⟨j+1,by rw[ec',zl];exact j1,λi hi=>?_,?_,Nat.and_le_left⟩
   .cases i with
    |zero=>rw[ec',zk]
    |succ i=>rw[ec',zl];exact j2 i (by omega)
   .rw[e1,pow_succ,<- j3,ec];simp;omega
theorem rH {c m i:Nat}(h:c<2^m)(hi:m<=i):testBit c i=false:=Nat.testBit_lt_two_pow (lt_of_lt_of_le h (Nat.pow_le_pow_right (by decide) hi))
theorem BO {m i:Nat}:testBit (2^m-1) i=decide (i<m):=Nat.testBit_two_pow_sub_one ..
theorem qi {α:Type}:∀(l:List α) {S:Nat->Bool},(∀i,i<l.length->S i=true)->aF S l=l
 |[],_,_=>rfl
 |a::l,S,h=>by unfold aF;rw[if_pos (h 0 (Nat.zero_lt_succ _)),qi l λi hi=>h (i+1) (succ_lt_succ hi)]
def eY (as:List Int):List Int:=as.foldl (λs a=>s++s.map λt=>t+a) [0]
theorem tD:∀(v:List Int) {S T:Nat->Bool},(∀i,i<v.length->S i=T i)->sm v S=sm v T
 |[],_,_,_=>rfl
 |a::v,S,T,h=>by unfold sm;rw[h 0 (Nat.zero_lt_succ _),tD v (S:=λi=>S (i+1)) (T:=λi=>T (i+1)) λi hi=>h (i+1) (succ_lt_succ hi)]
theorem qj:∀(v:List Int) (a:Int) (S:Nat->Bool),sm (v++[a]) S=sm v S+if S v.length=true then a else 0
 |[],a,S=>by
  show(if S 0=true then a else 0)+0=0+if S 0=true then a else 0
  omega
 |b::v,a,S=>by
  show(if S 0=true then b else 0)+sm (v++[a]) (λi=>S (i+1))=(if S 0=true then b else 0)+sm v (λi=>S (i+1))+if S (v.length+1)=true then a else 0
  rw[qj v a];omega
def oz (pre acc:List Int):Prop:=acc.length=2^pre.length/\∀c,c<2^pre.length->acc[c]?=some (sm pre (testBit c))
theorem xY {pre acc:List Int}(a:Int)(h:oz pre acc):oz (pre++[a]) (acc++acc.map λt=>t+a):=by
 obtain⟨h1,h2⟩:=h;refine⟨by rw[length_append,length_map,length_append,h1];show _=2^(pre.length+1);rw[pow_succ];omega,λc hc=>?_⟩;rw[length_append]at hc;have hc:c<2^(pre.length+1):=hc;rw[pow_succ]at hc;rw[qj];by_cases hlt:c<2^pre.length
 .rw[List.getElem?_append_left (by omega),h2 c hlt,rH hlt (Nat.le_refl _)];simp
 .have hd:c-2^pre.length<2^pre.length:=by omega
  rw[List.getElem?_append_right (by omega),h1,getElem?_map,h2 _ hd];have e1:testBit c pre.length=true:=by
   have:c=2^pre.length+(c-2^pre.length):=by omega
   rw[this,Nat.testBit_two_pow_add_eq,rH hd (Nat.le_refl _)];rfl
  rw[e1];show some (sm pre (testBit (c-2^pre.length))+a)=some (sm pre (testBit c)+a)
  congr 2
  refine tD pre λi hi=>?_;have:c=2^pre.length+(c-2^pre.length):=by omega
  rw[this,Nat.testBit_two_pow_add_gt hi]
  congr 1;omega
theorem nI (as:List Int):oz as (eY as):=by
 have key:∀(as pre acc:List Int),oz pre acc->oz (pre++as) (as.foldl (λs a=>s++s.map λt=>t+a) acc):=by
  intro as
  induction as with
  |nil=>intro pre acc h;rw[append_nil];exact h
  |cons a as ih=>
   intro pre acc h;have:=ih (pre++[a]) _ (xY a h);rw[List.append_assoc]at this;exact this
 have:=key as [] [0] ⟨rfl,λc hc=>by
  have:c=0:=by have:c<1:=hc;omega
  subst this;rfl⟩
 rw[List.nil_append]at this;exact this
open Vbpoal (paidIn paymentsOf nsum isum)
def jh (f:Nat->Int):List Nat->List (Nat×Nat)
 |[]=>[]
 |h::l=>if f h<0 then(h,(f h).natAbs)::jh f l else jh f l
def mM (f:Nat->Int):List Nat->List (Nat×Nat)
 |[]=>[]
 |h::l=>if 0<f h then(h,(f h).natAbs)::mM f l else mM f l
theorem nJ (f:Nat->Int):∀l,mM f l=jh (λh=>- f h) l
 |[]=>rfl
 |h::l=>by
  unfold mM jh;rw[nJ f l];by_cases q:0<f h
  .rw[if_pos q,if_pos (by omega),Int.natAbs_neg]
  .rw[if_neg q,if_neg (by omega)]
theorem jq (f:Nat->Int):∀l,(jh f l).map (·.1)=l.filter λh=>decide (f h<0)
 |[]=>rfl
 |h::l=>by
  unfold jh;rw[filter_cons];by_cases q:f h<0
  .rw[if_pos q,if_pos (decide_eq_true q),map_cons,jq f l]
  .rw[if_neg q,if_neg (by simpa using q),jq f l]
theorem tG (f:Nat->Int)(l:List Nat):(mM f l).map (·.1)=l.filter λh=>decide (0<f h):=by
 rw[nJ,jq];refine List.filter_congr λh _=>?_;have:(- f h<0)↔(0<f h):=by omega
 rw[decide_eq_decide.mpr this]
theorem iG {f:Nat->Int}:∀{l:List Nat} {x:Nat×Nat},x∈jh f l->x.1∈l/\f x.1<0/\f x.1 = -(x.2:Int)/\0<x.2
 |[],_,h=>by cases h
 |h::l,x,hx=>by
  unfold jh at hx;by_cases q:f h<0
  .rw[if_pos q]at hx;rcases mem_cons.mp hx with e|hx
   .rw[e];exact⟨mem_cons_self,q,by simp only;omega,by simp only;omega⟩
   .obtain⟨a,b⟩:=iG hx;exact⟨mem_cons_of_mem _ a,b⟩
  .rw[if_neg q]at hx;obtain⟨a,b⟩:=iG hx;exact⟨mem_cons_of_mem _ a,b⟩
theorem qk {f g:Nat->Int}:∀{l:List Nat},(∀h∈l,f h=g h\/(0<=f h/\0<=g h))->jh f l=jh g l
 |[],_=>rfl
 |h::l,hh=>by
  unfold jh;rw[qk λx hx=>hh x (mem_cons_of_mem _ hx)];rcases hh h mem_cons_self with e|⟨e1,e2⟩
  .rw[e]
  .rw[if_neg (by omega),if_neg (by omega)]
theorem oA {f g:Nat->Int}{p a n:Nat}:∀{l:List Nat} {r:List (Nat×Nat)},l.Nodup->jh f l=(p,a)::r->n<=a->g p=f p+n->(∀h,h≠p->f h=g h\/(0<=f h/\0<=g h))->jh g l=if a=n then r else(p,a-n)::r
 |[],_,_,h,_,_,_=>by cases h
 |h::l,r,nd,e,hn,hp,hh=>by
  have nd:h∉l/\l.Nodup:=nodup_cons.mp nd;unfold jh at e ⊢;by_cases q:f h<0
  .rw[if_pos q]at e;injection e with e1 e2;injection e1 with e3 e4;subst e3;have er:jh g l=r:=by rw[<- e2];exact(qk λx hx=>hh x λz=>nd.1 (z▸hx)).symm
   rw[er,hp];by_cases qa:a=n
   .rw[if_pos qa,if_neg (by omega)]
   .rw[if_neg qa,if_pos (by omega)]
    congr 2
    omega
  .rw[if_neg q]at e;have hpe:h≠p:=λz=>by
    have m:(p,a)∈jh f l:=by rw[e];exact mem_cons_self
    exact nd.1 (z▸(iG m).1)
   rw[if_neg (by rcases hh h hpe with z|z<;>omega)];exact oA nd.2 e hn hp hh
theorem zv {f g:Nat->Int}{p a n:Nat}{l:List Nat}{r:List (Nat×Nat)}(nd:l.Nodup)(e:mM f l=(p,a)::r)(hn:n<=a)(hp:g p=f p-n)(hh:∀h,h≠p->f h=g h\/(f h<=0/\g h<=0)):mM g l=if a=n then r else(p,a-n)::r:=by
 rw[nJ]at e ⊢;refine oA (f:=λh=>- f h) nd e hn (by show-g p =-f p+n;omega) λh hh'=>?_;rcases hh h hh' with z|z
 .left;show-f h =-g h;omega
 .right;show 0<=- f h/\0<=- g h;omega
theorem wL {f:Nat->Int}{l:List Nat}{x:Nat×Nat}(h:x∈mM f l):x.1∈l/\0<f x.1/\f x.1=(x.2:Int)/\0<x.2:=by rw[nJ]at h;obtain⟨a,b,c,d⟩:=iG h;have b :-f x.1<0:=b;have c :-f x.1 = -(x.2:Int):=c;exact⟨a,by omega,by omega,d⟩
def zw (l:List (Nat×Nat)):Nat:=nsum (l.map (·.2))
theorem gh (x:Nat×Nat)(l:List (Nat×Nat)):zw (x::l)=x.2+zw l:=rfl
theorem oB (f:Nat->Int):∀l:List Nat,isum (l.map f)=(zw (mM f l):Int)-(zw (jh f l):Int)
 |[]=>rfl
 |h::l=>by
  have ih:=oB f l;show f h+isum (l.map f)=_;unfold mM jh;by_cases q:f h<0
  .rw[if_pos q,if_neg (by omega),gh,ih];simp only;omega
  .rw[if_neg q];by_cases q':0<f h
   .rw[if_pos q',gh,ih];simp only;omega
   .rw[if_neg q',ih];omega
theorem tH {l:List (Nat×Nat)}(h:∀x∈l,0<x.2)(e:zw l=0):l=[]:=by
 cases l with
 |nil=>rfl
 |cons x r=>
  rw[gh]at e;have:=h x mem_cons_self;omega
theorem BP {f:Nat->Int}{l:List Nat}(h1:jh f l=[])(h2:mM f l=[]):∀h∈l,f h=0:=by
 intro h hh;have a:=jq f l;have b:=tG f l;rw[h1]at a;rw[h2]at b;have a':¬f h<0:=λq=>by have:h∈l.filter λh=>decide (f h<0):=mem_filter.mpr ⟨hh,decide_eq_true q⟩;rw[<- a]at this;cases this
 have b':¬0<f h:=λq=>by have:h∈l.filter λh=>decide (0<f h):=mem_filter.mpr ⟨hh,decide_eq_true q⟩;rw[<- b]at this;cases this
 omega
theorem rJ (f:Nat->Int):∀l:List Nat,(jh f l).length+(mM f l).length<=l.length
 |[]=>Nat.le_refl _
 |h::l=>by
  have ih:=rJ f l;unfold jh mM;by_cases q:f h<0
  .rw[if_pos q,if_neg (by omega),length_cons,length_cons];omega
  .rw[if_neg q];by_cases q':0<f h
   .rw[if_pos q',length_cons,length_cons];omega
   .rw[if_neg q',length_cons];omega
theorem tI (f:Nat->Int)(l:List Nat):paymentsOf (l.map λh=>(h,f h))=paidIn (2*l.length) (jh f l) (mM f l):=by
 unfold paymentsOf;rw[length_map]
 congr 1
 .induction l with
  |nil=>rfl
  |cons h l ih=>
   rw[map_cons,filter_cons];unfold jh;by_cases q:f h<0
   .rw[if_pos q,if_pos (decide_eq_true q),map_cons,ih]
   .rw[if_neg q,if_neg (by simpa using q),ih]
 .induction l with
  |nil=>rfl
  |cons h l ih=>
   rw[map_cons,filter_cons];unfold mM;by_cases q:0<f h
   .rw[if_pos q,if_pos (decide_eq_true q),map_cons,ih]
   .rw[if_neg q,if_neg (by simpa using q),ih]
structure iH (l:List Nat)(f:Nat->Int)(ps:List Vbpoal.Payment):Prop where
 nd:l.Nodup
 bal:zw (jh f l)=zw (mM f l)
 eq:∃k,(jh f l).length+(mM f l).length<=k/\ps=paidIn k (jh f l) (mM f l)
theorem iH.begin {l:List Nat}{f:Nat->Int}(nd:l.Nodup)(h:isum (l.map f)=0):iH l f (paymentsOf (l.map λh=>(h,f h))):=by rw[oB]at h;have:=rJ f l;exact⟨nd,by omega,2*l.length,by omega,tI f l⟩
theorem iH.done {l:List Nat}{f:Nat->Int}{ps:List Vbpoal.Payment}(h:iH l f ps)(z:∀h∈l,f h=0):ps=[]:=by
 obtain⟨k,_,e⟩:=h.eq;have d:jh f l=[]:=by
  cases q:jh f l with
  |nil=>rfl
  |cons x r=>
   have m:=iG (show x∈jh f l by rw[q];exact mem_cons_self);have:=z _ m.1;omega
 rw[e,d];cases k<;>rfl
theorem F4 {a b u v:Nat}(h:a+u=b+v):(if a=min a b then u else a-min a b+u)=if b=min a b then v else b-min a b+v:=by split<;>split<;>omega
theorem F5 {a b u v k:Nat}(h:u+v+1<=k):(if a=min a b then u else u+1)+(if b=min a b then v else v+1)<=k:=by split<;>split<;>omega
theorem GZ {a b u v:Nat}:(if a=min a b then u else u+1)+(if b=min a b then v else v+1)<u+1+(v+1):=by split<;>split<;>omega
theorem iH.step {l:List Nat}{f:Nat->Int}{ps:List Vbpoal.Payment}(h:iH l f ps)(z:∃h∈l,f h≠0) :
  ∃(p q a b:Nat) (r r':List (Nat×Nat)) (ps':List Vbpoal.Payment),jh f l=(p,a)::r/\mM f l=(q,b)::r'/\p≠q/\p∈l/\q∈l/\f p = -(a:Int)/\f q=(b:Int)/\0<min a b/\ps=⟨p,q,min a b⟩::ps'/\
   ∀g:Nat->Int,g p=f p+(min a b:Nat)->g q=f q-(min a b:Nat)->(∀h,h≠p->h≠q->g h=f h)->iH l g ps'/\(jh g l).length+(mM g l).length<(jh f l).length+(mM f l).length:=by
 obtain⟨nd,bal,k,hk,e⟩:=h;have pos1:∀x∈jh f l,0<x.2:=λx hx=>(iG hx).2.2.2;have pos2:∀x∈mM f l,0<x.2:=λx hx=>(wL hx).2.2.2;cases ed:jh f l with
 |nil=>
  have c0:mM f l=[]:=tH pos2 (by rw[<- bal,ed];rfl);obtain⟨h,hh,hz⟩:=z;exact absurd (BP ed c0 h hh) hz
 |cons x r=>
  cases ec:mM f l with
  |nil=>
   have:zw (jh f l)=0:=by rw[bal,ec];rfl
   have d0:=tH pos1 this;rw[ed]at d0;cases d0
  |cons y r'=>
   obtain⟨p,a⟩:=x;obtain⟨q,b⟩:=y;obtain⟨p1,p2,p3,p4⟩:=iG (show(p,a)∈jh f l by rw[ed];exact mem_cons_self);obtain⟨q1,q2,q3,q4⟩:=wL (show(q,b)∈mM f l by rw[ec];exact mem_cons_self);simp only at p1 p2 p3 p4 q1 q2 q3 q4;have hpq:p≠q:=λe=>by rw[e]at p2;omega
   cases k with
   |zero=>rw[ed,ec]at hk;simp at hk
   |succ k=>
    refine⟨p,q,a,b,r,r',paidIn k (if a=min a b then r else(p,a-min a b)::r) (if b=min a b then r' else(q,b-min a b)::r'),rfl,rfl,hpq,p1,q1,p3,q3,by omega,?_,λg g1 g2 g3=>?_⟩
    .rw[e,ed,ec];rfl
    .have hd:=oA (g:=g) (n:=min a b) nd ed (by omega) g1 λh hh=>by
      by_cases hq:h=q
      .right;rw[hq,g2,q3];omega
      .left;exact(g3 h hh hq).symm
     have hc:=zv (g:=g) (n:=min a b) nd ec (by omega) g2 λh hh=>by
      by_cases hp:h=p
      .right;rw[hp,g1,p3];omega
      .left;exact(g3 h hp hh).symm
     have b0:=bal;rw[ed,ec,gh,gh]at b0;have hk':r.length+r'.length+1<=k:=by rw[ed,ec,length_cons,length_cons]at hk;omega
     have tt:∀(c:Prop) [Decidable c] (u w:List (Nat×Nat)),zw (if c then u else w)=if c then zw u else zw w:=λc _ u w=>by split<;>rfl
     have ll:∀(c:Prop) [Decidable c] (u w:List (Nat×Nat)),(if c then u else w).length=if c then u.length else w.length:=λc _ u w=>by split<;>rfl
     refine⟨⟨nd,?_,k,?_,by rw[hd,hc]⟩,?_⟩
     .rw[hd,hc,tt,tt,gh,gh];exact F4 b0
     .rw[hd,hc,ll,ll,length_cons,length_cons];exact F5 hk'
     .rw[hd,hc,ll,ll];exact GZ
open Vbpoal (isum nsum nums)
theorem dE:∀(a b:List Int),isum (a++b)=isum a+isum b
 |[],b=>(Int.zero_add _).symm
 |x::a,b=>by show x+isum (a++b)=x+isum a+isum b;rw[dE a b];omega
theorem cr {α:Type}(p:α->Bool)(v:α->Int):∀l:List α,isum ((l.filter p).map v)=isum (l.map λx=>if p x=true then v x else 0)
 |[]=>rfl
 |x::l=>by
  rw[filter_cons];show _=(if p x=true then v x else 0)+isum (l.map λx=>if p x=true then v x else 0);rw[<- cr p v l];split
  .rfl
  .exact(Int.zero_add _).symm
theorem fB {α:Type}(u v:α->Int):∀l:List α,isum (l.map λx=>u x-v x)=isum (l.map u)-isum (l.map v)
 |[]=>rfl
 |x::l=>by show u x-v x+isum (l.map λx=>u x-v x)=u x+isum (l.map u)-(v x+isum (l.map v));rw[fB u v l];omega
theorem oC {α:Type}(u v:α->Int):∀l:List α,isum (l.map λx=>u x+v x)=isum (l.map u)+isum (l.map v)
 |[]=>rfl
 |x::l=>by show u x+v x+isum (l.map λx=>u x+v x)=u x+isum (l.map u)+(v x+isum (l.map v));rw[oC u v l];omega
theorem lX {α:Type}:∀l:List α,isum (l.map λ_=>0)=0
 |[]=>rfl
 |x::l=>by show 0+isum (l.map λ_=>0)=0;rw[lX l];rfl
theorem gk {α:Type}{u v:α->Int}{l:List α}(h:∀x∈l,u x=v x):isum (l.map u)=isum (l.map v):=by rw[map_congr_left h]
theorem ql {α β:Type}(f:α->β->Int):∀(l:List α) (m:List β),isum (l.map λx=>isum (m.map λy=>f x y))=isum (m.map λy=>isum (l.map λx=>f x y))
 |[],m=>(lX m).symm
 |x::l,m=>by show isum (m.map λy=>f x y)+isum (l.map λx=>isum (m.map λy=>f x y))=isum (m.map λy=>f x y+isum (l.map λx=>f x y));rw[ql f l m,oC]
theorem qo (n:Nat):nums (n+1)=nums n++[n+1]:=by unfold nums;rw[List.range_succ,map_append];rfl
theorem nL (c:Int)(k:Nat):∀n:Nat,1<=k->isum ((nums n).map λb=>if k=b then c else 0)=if k<=n then c else 0
 |0,h=>by rw[if_neg (by omega)];rfl
 |n+1,h=>by
  rw[qo,map_append,dE,nL c k n h];show _+((if k=n+1 then c else 0)+0)=_;by_cases q:k<=n
  .rw[if_pos q,if_neg (by omega),if_pos (by omega)];omega
  .rw[if_neg q];by_cases q':k=n+1
   .rw[if_pos q',if_pos (by omega)];omega
   .rw[if_neg q',if_neg (by omega)];omega
abbrev pR:=Nat×Nat×Nat
def BQ (m:pR)(h:Nat):Int:=(if m.1=h then(m.2.2:Int)else 0)-(if m.2.1=h then(m.2.2:Int)else 0)
def mv (ms:List pR)(h:Nat):Int:=isum (ms.map λm=>BQ m h)
theorem rK (ms:List pR)(m:pR)(h:Nat):mv (ms++[m]) h=mv ms h+BQ m h:=by unfold mv;rw[map_append,dE];show _+(BQ m h+0)=_;omega
theorem xZ (ms ns:List pR)(h:Nat):mv (ms++ns) h=mv ms h+mv ns h:=by unfold mv;rw[map_append,dE]
def nu (x:Vbpoal.Statement):pR:=(x.from_,x.to,x.figure)
def fC (p:Vbpoal.Payment):pR:=(p.from_,p.to,p.amount)
def bN (s:Vbpoal.State):List Vbpoal.Statement:=s.statements.filter λx=>x.state==3
def cf (s:Vbpoal.State):List pR:=(bN s).map nu++s.payments.map fC
def tJ (n:Nat)(m:pR):Prop:=(1<=m.1/\m.1<=n)/\1<=m.2.1/\m.2.1<=n
theorem zx {n:Nat}:∀{ms:List pR},(∀m∈ms,tJ n m)->isum ((nums n).map (mv ms))=0
 |[],_=>lX _
 |m::ms,h=>by have e:isum ((nums n).map (mv (m::ms)))=isum ((nums n).map λb=>BQ m b)+isum ((nums n).map (mv ms)):=oC (λb=>BQ m b) (mv ms) _;rw[e,zx λx hx=>h x (mem_cons_of_mem _ hx)];obtain⟨h1,h2⟩:=h m mem_cons_self;have e2:isum ((nums n).map λb=>BQ m b)=isum ((nums n).map λb=>if m.1=b then(m.2.2:Int)else 0)-isum ((nums n).map λb=>if m.2.1=b then(m.2.2:Int)else 0):=fB _ _ _;rw[e2,nL _ _ n h1.1,nL _ _ n h2.1,if_pos h1.2,if_pos h2.2];omega
theorem kW {α:Type}{n:Nat}(l:List α)(p:α->Bool)(k:α->Nat)(v:α->Int)(h:∀x∈l,1<=k x/\k x<=n) :
  isum ((nums n).map λb=>isum ((l.filter λx=>p x&&(k x==b)).map v))=isum ((l.filter p).map v):=by
 have e:(λb=>isum ((l.filter λx=>p x&&(k x==b)).map v))=λb=>isum (l.map λx=>if k x=b then(if p x=true then v x else 0)else 0):=by
  funext b;rw[cr]
  congr 2
  funext x;cases p x
  .simp
  .simp
 rw[e,ql (λb x=>if k x=b then(if p x=true then v x else 0)else 0),cr];refine gk λx hx=>?_;obtain⟨h1,h2⟩:=h x hx;rw[nL _ _ n h1,if_pos h2]
theorem jr {s:Vbpoal.State}(h1:∀x∈s.statements,tJ s.houses.length (nu x))(h2:∀p∈s.payments,tJ s.houses.length (fC p))(a:Nat):Vbpoal.position s a=mv (cf s) a:=by
 unfold Vbpoal.position Vbpoal.owes;generalize hn:s.houses.length=n at h1 h2;have f1:∀a b,(s.statements.filter λx=>x.state==3&&(x.to==a&&x.from_==b))=(bN s).filter λx=>(x.to==a&&x.from_==b):=λa b=>by unfold bN;rw[List.filter_filter];refine List.filter_congr λx _=>?_;exact Bool.and_comm _ _
 have r1:∀x∈bN s,tJ n (nu x):=λx hx=>h1 x (mem_filter.mp hx).1;simp only[f1];rw[fB,fB,fB];have g1:isum ((nums n).map λb=>isum (((bN s).filter λx=>(x.to==b&&x.from_==a)).map λx=>(x.figure:Int)))=isum (((bN s).filter λx=>x.from_==a).map λx=>(x.figure:Int)):=by rw[<- kW (bN s) (λx=>x.from_==a) (λx=>x.to) _ λx hx=>(r1 x hx).2];simp only[Bool.and_comm]
 have g2:isum ((nums n).map λb=>isum (((bN s).filter λx=>(x.to==a&&x.from_==b)).map λx=>(x.figure:Int)))=isum (((bN s).filter λx=>x.to==a).map λx=>(x.figure:Int)):=kW (bN s) (λx=>x.to==a) (λx=>x.from_) _ λx hx=>(r1 x hx).1;have g3:isum ((nums n).map λb=>isum ((s.payments.filter λp=>p.from_==b&&p.to==a).map λp=>(p.amount:Int)))=isum ((s.payments.filter λp=>p.to==a).map λp=>(p.amount:Int)):=by rw[<- kW s.payments (λp=>p.to==a) (λp=>p.from_) _ λx hx=>(h2 x hx).1];simp only[Bool.and_comm]
 have g4:isum ((nums n).map λb=>isum ((s.payments.filter λp=>p.from_==a&&p.to==b).map λp=>(p.amount:Int)))=isum ((s.payments.filter λp=>p.from_==a).map λp=>(p.amount:Int)):=kW s.payments (λp=>p.from_==a) (λp=>p.to) _ λx hx=>(h2 x hx).2;rw[g1,g2,g3,g4];unfold mv cf;rw[map_append,dE,map_map,map_map];have e1:isum ((bN s).map ((λm=>BQ m a)∘nu))=isum ((bN s).map λx=>if (x.from_==a)=true then(x.figure:Int)else 0)-isum ((bN s).map λx=>if (x.to==a)=true then(x.figure:Int)else 0):=by rw[<- fB];refine gk λx _=>?_;show(if x.from_=a then(x.figure:Int)else 0)-(if x.to=a then(x.figure:Int)else 0)=_;simp only[beq_iff_eq]
 have e2:isum (s.payments.map ((λm=>BQ m a)∘fC))=isum (s.payments.map λx=>if (x.from_==a)=true then(x.amount:Int)else 0)-isum (s.payments.map λx=>if (x.to==a)=true then(x.amount:Int)else 0):=by rw[<- fB];refine gk λx _=>?_;show(if x.from_=a then(x.amount:Int)else 0)-(if x.to=a then(x.amount:Int)else 0)=_;simp only[beq_iff_eq]
 rw[e1,e2,cr,cr,cr,cr];omega
theorem x5 {s:Vbpoal.State}(h1:∀x∈s.statements,tJ s.houses.length (nu x))(h2:∀p∈s.payments,tJ s.houses.length (fC p))(ps:List Vbpoal.Payment)(a:Nat):behind s ps a=mv (cf s++ps.map fC) a:=by
 unfold behind;rw[jr h1 h2,xZ];have e2:mv (ps.map fC) a=isum (ps.map λx=>if (x.from_==a)=true then(x.amount:Int)else 0)-isum (ps.map λx=>if (x.to==a)=true then(x.amount:Int)else 0):=by unfold mv;rw[map_map,<- fB];refine gk λx _=>?_;show(if x.from_=a then(x.amount:Int)else 0)-(if x.to=a then(x.amount:Int)else 0)=_;simp only[beq_iff_eq]
 rw[e2,cr,cr];omega
theorem BR (l:List (Nat×Int)):isum ((l.filter λx=>x.2 != 0).map (·.2))=isum (l.map (·.2)):=by
 rw[cr];refine gk λx _=>?_;by_cases h:x.2=0
 .rw[h];rfl
 .rw[if_pos (by simpa using h)]
theorem iI {s:Vbpoal.State}(h1:∀x∈s.statements,tJ s.houses.length (nu x))(h2:∀p∈s.payments,tJ s.houses.length (fC p)):Vbpoal.positions s=(nums s.houses.length).map λa=>(a,mv (cf s) a):=by unfold Vbpoal.positions;refine map_congr_left λa _=>?_;rw[jr h1 h2]
theorem zy {s:Vbpoal.State}(h1:∀x∈s.statements,tJ s.houses.length (nu x))(h2:∀p∈s.payments,tJ s.houses.length (fC p)):isum (((Vbpoal.positions s).filter λx=>x.2 != 0).map (·.2))=0:=by
 rw[BR,iI h1 h2,map_map];refine zx (ms:=cf s) λm hm=>?_;rcases mem_append.mp hm with hm|hm
 .obtain⟨x,hx,rfl⟩:=mem_map.mp hm;exact h1 x (mem_filter.mp hx).1
 .obtain⟨p,hp,rfl⟩:=mem_map.mp hm;exact h2 p hp
end Pc
open PySem PySem.Spec
namespace L2
open PyProof.Rows
abbrev cT:=Sum Int Str
def kj:cT->Value->Bool
 |.inl k,v=>Value.isInt k v
 |.inr x,v=>Value.isStrOf x v
def E7 (w:World):cT->Int
 |.inl k=>hashInt k
 |.inr x=>hashStr w x
theorem cu:∀{k:cT} {v:Value},kj k v=true->(∃i t,k=Sum.inl i/\v=Value.int i t)\/(∃x t,k=Sum.inr x/\v=Value.str x t)
 |.inl i,v,h=>by obtain⟨t,e⟩:=Value.isInt_shape (k:=i) (v:=v) h;exact .inl ⟨i,t,rfl,e⟩
 |.inr x,v,h=>by obtain⟨t,e⟩:=Value.isStrOf_shape (x:=x) (v:=v) h;exact .inr ⟨x,t,rfl,e⟩
theorem bt (i:Int)(t:Tok):kj (.inl i) (.int i t)=true:=by simp[kj,Value.isInt]
theorem jU (x:Str)(t:Tok):kj (.inr x) (.str x t)=true:=by simp[kj,Value.isStrOf]
theorem DZ (a b:Int):decide ((Sum.inl a:cT)=Sum.inl b)=(a==b):=by
 by_cases e:a=b
 .subst e;simp
 .have h:¬(Sum.inl a:cT)=Sum.inl b:=λq=>e (Sum.inl.inj q);rw[decide_eq_false h];exact(beq_eq_false_iff_ne.mpr e).symm
theorem D0 (a b:Str):decide ((Sum.inr a:cT)=Sum.inr b)=decide (a=b):=by
 by_cases e:a=b
 .subst e;simp
 .have h:¬(Sum.inr a:cT)=Sum.inr b:=λq=>e (Sum.inr.inj q);rw[decide_eq_false h,decide_eq_false e]
theorem D3 (a:Int)(b:Str):decide ((Sum.inl a:cT)=Sum.inr b)=false:=decide_eq_false (λq=>nomatch q)
theorem D4 (a:Str)(b:Int):decide ((Sum.inr a:cT)=Sum.inl b)=false:=decide_eq_false (λq=>nomatch q)
def bM (prog:Program)(w:World):PySem.KeyKind prog w cT where
 is:=kj
 hash:=E7 w
 inj:=λv a b ha hb=>by
  rcases cu ha with⟨i,t,rfl,rfl⟩|⟨x,t,rfl,rfl⟩
  .rcases cu hb with⟨j,u,rfl,e⟩|⟨y,u,rfl,e⟩
   .injection e with e1 _;rw[e1]
   .exact nomatch e
  .rcases cu hb with⟨j,u,rfl,e⟩|⟨y,u,rfl,e⟩
   .exact nomatch e
   .injection e with e1 _;rw[e1]
 byValue:=λk v h=>by rcases cu h with⟨i,t,rfl,rfl⟩|⟨x,t,rfl,rfl⟩<;>rfl
 pyHash:=λhv h=>by
  rcases cu hv with⟨i,t,rfl,rfl⟩|⟨x,t,rfl,rfl⟩
  .exact wpAny_pyHash_int h
  .exact wpAny_pyHash_str h
 eqBool:=λhu hv h=>by
  rcases cu hu with⟨i,t,rfl,rfl⟩|⟨x,t,rfl,rfl⟩
  .rcases cu hv with⟨j,u,rfl,rfl⟩|⟨y,u,rfl,rfl⟩
   .rw[DZ]at h;exact wpAny_eqBool_int h
   .rw[D3]at h;exact SeqAt.EqAt.int_str i t y u _ _ _ _ h
  .rcases cu hv with⟨j,u,rfl,rfl⟩|⟨y,u,rfl,rfl⟩
   .rw[D4]at h;exact SeqAt.EqAt.str_int x t j u _ _ _ _ h
   .rw[D0]at h;exact wpAny_eqBool_str h
 «strs»:=λk x t v h=>by
  rcases cu h with⟨i,u,rfl,e⟩|⟨y,u,rfl,e⟩
  .exact nomatch e
  .injection e with e1 _;subst e1;cases v<;>rfl
theorem tK (prog:Program)(w:World)(i:Int)(t:Tok):(bM prog w).is (.inl i) (.int i t)=true:=bt i t
theorem tL (prog:Program)(w:World)(x:Str)(t:Tok):(bM prog w).is (.inr x) (.str x t)=true:=jU x t
inductive V where
 |non|bl (b:Bool)|int (i:Int)|str (x:Str)|byt (b:Array UInt8)|flt (b:UInt64)|ref (a:Addr)|ty (n:String)
 deriving DecidableEq
def bI:V->Value->Prop
 |.non,u=>u=Value.none
 |.bl b,u=>u=Value.bool b
 |.int i,u=>∃t,u=Value.int i t
 |.str x,u=>∃t,u=Value.str x t
 |.byt b,u=>∃t,u=Value.bytes b t
 |.flt b,u=>∃t,u=Value.float b t
 |.ref a,u=>u=Value.ref a
 |.ty n,u=>u=Value.type n
abbrev bn:List V->List Value->Prop:=Paired bI
theorem bn.length {xs:List V}{us:List Value}(r:bn xs us):xs.length=us.length:=Paired.length r
theorem bn.get:∀{xs:List V} {us:List Value} {i:Nat} {x:V},bn xs us->xs[i]?=some x->∃u,us[i]?=some u/\bI x u
 |_,_,_,_,.nil,e=>by simp at e
 |_,_,0,_,.cons r _,e=>by simp at e;subst e;exact⟨_,rfl,r⟩
 |_,_,i+1,x,.cons _ t,e=>by obtain⟨u,h1,h2⟩:=bn.get (i:=i) (x:=x) t (by simpa using e);exact⟨u,by simpa using h1,h2⟩
theorem bn.set {x:V}{u:Value}(r:bI x u):∀{xs:List V} {us:List Value} (i:Nat),bn xs us->bn (xs.set i x) (us.set i u)
 |_,_,_,.nil=>.nil
 |_,_,0,.cons _ t=>.cons r t
 |_,_,i+1,.cons q t=>.cons q (bn.set r i t)
theorem bn.append:∀{xs ys:List V} {us ws:List Value},bn xs us->bn ys ws->bn (xs++ys) (us++ws)
 |_,_,_,_,.nil,s=>s
 |_,_,_,_,.cons r t,s=>.cons r (bn.append t s)
theorem bn.take:∀{xs:List V} {us:List Value} (n:Nat),bn xs us->bn (xs.take n) (us.take n)
 |_,_,0,_=>.nil
 |_,_,_+1,.nil=>.nil
 |_,_,n+1,.cons r t=>.cons r (bn.take n t)
theorem bn.drop:∀{xs:List V} {us:List Value} (n:Nat),bn xs us->bn (xs.drop n) (us.drop n)
 |_,_,0,r=>r
 |_,_,_+1,.nil=>.nil
 |_,_,n+1,.cons _ t=>bn.drop n t
def js:Option V->Option Value->Prop
 |some v,some u=>bI v u
 |none,none=>True
 |_,_=>False
def KV {κ:Type}:List (κ×V)->List (κ×Value)->Prop:=Paired λ(p:κ×V) (q:κ×Value)=>p.1=q.1/\bI p.2 q.2
def kV:cT->V
 |.inl i=>.int i
 |.inr x=>.str x
inductive HO where
 |lst (xs:List V)
 |tup (xs:List V)
 |dK (kvs:List (cT×V))|dT (kvs:List (List cT×V))
 |set (S:Int->Bool) (n:Nat)
 |ins (C dx:Addr) (fs:List (Str×V))
 |own (x:Addr)
 |xd (fs:List (Str×V))
 |met (f x:Addr)
 |rng (lo hi:Int)
 |frz (o:Obj) (u:HO)
 |tbl (ps:Array Value)
 |ext (φ:Heap->Prop)
abbrev Hp:=Addr->Option HO
def upd (H:Hp)(a:Addr)(o:HO):Hp:=λb=>if b=a then some o else H b
theorem ac {H:Hp}{a:Addr}{o:HO}:upd H a o a=some o:=by unfold upd;rw[if_pos rfl]
theorem ah {H:Hp}{a b:Addr}{o:HO}(h:b≠a):upd H a o b=H b:=by unfold upd;rw[if_neg h]
theorem aP {H:Hp}{a b:Addr}{o u:HO}(h:H a=some o)(h':H b=some u)(d:o≠u):a≠b:=by intro e;subst e;rw[h]at h';exact d (Option.some.inj h')
theorem aj {H:Hp}{a b:Addr}{o:HO}(h:H a=some o)(h':H b=none):a≠b:=by intro e;subst e;rw[h]at h';cases h'
section
variable (P:Program)(w:World)
def cX (H:Hp)(h:Heap)(a:Addr):HO->Prop
 |.lst xs=>xs.length<=sizeLine/\∃(its:List Value) (n:Nat),bn xs its/\h.get? a=some { cls:=.type "list",data:=.seq its.toArray n }
 |.tup xs=>xs.length<=sizeLine/\∃its:List Value,bn xs its/\IsTup h a its.toArray
 |.dK kvs=>kvs.length<=sizeLine/\(a==sysModules)=false/\∃vs,KV kvs vs/\h.DictOf (bM P w) a vs
 |.dT kvs=>kvs.length<=sizeLine/\(a==sysModules)=false/\∃xs:List (List cT×Addr×Value),
   Paired (λ(p:List cT×V) (q:List cT×Addr×Value)=>p.1=q.1/\H q.2.1=some (.tup (p.1.map kV))/\bI p.2 q.2.2) kvs xs/\
   ∃o es ep,h.get? a=some o/\o.ExactDict/\o.data = .dict es ep/\es.toList=xs.map (entryOfKey (tupleKind (bM P w)))/\(xs.map (·.1)).Nodup
 |.set S n=>h.SetOf (intKind P w) a S n
 |.ins C dx fs=>H dx=some (.own a)/\fs.length<=1000/\dx≠a/\h.get? a=some (instObj C dx)/\
   ∃mA,h.Ns1 dx mA/\(∀f,js (fs.lookup f) (mA f))/\PySem.Within mA (fs.map (·.1))
 |.own _=>∃o,h.get? a=some o
 |.xd fs=>∃mA,h.Ns1 a mA/\∀f,js (fs.lookup f) (mA f)
 |.rng lo hi=>∃t u v,h.get? a=some { cls:=.type "range",data:=.fields #[.int lo t,.int hi u,.int 1 v] }
 |.frz o u=>h.get? a=some o/\cX H h a u
 |.tbl ps=>h.get? a=some { cls:=.none,data:=.fields ps }
 |.met f x=>h.get? a=some (methodObj (.ref f) (.ref x))
 |.ext φ=>φ h/\(∃o,h.get? a=some o)/\∀h1 h2:Heap,φ h1->(∀o,h1.get? a=some o->h2.get? a=some o)->φ h2
def ji (H:Hp)(h:Heap):Prop:=∀a o,H a=some o->cX P w H h a o
end
section
variable {P:Program}{w:World}{H H':Hp}{h h':Heap}{a:Addr}{o:HO}
theorem cX.lt (x:cX P w H h a o):a<h.objs.size:=by
 cases o with
 |lst xs=>obtain⟨_,_,_,_,e⟩:=x;exact lt_size e
 |tup xs=>obtain⟨_,_,_,p⟩:=x;exact p.lt
 |dK kvs=>obtain⟨_,_,_,_,o,_,_,e,_⟩:=x;exact lt_size e
 |dT kvs=>obtain⟨_,_,_,_,o,_,_,e,_⟩:=x;exact lt_size e
 |set S n=>obtain⟨o,_,_,_,e,_⟩:=x;exact lt_size e
 |ins C dx fs=>obtain⟨_,_,_,e,_⟩:=x;exact lt_size e
 |own y=>obtain⟨_,e⟩:=x;exact lt_size e
 |xd fs=>obtain⟨_,⟨_,_,_,e,_⟩,_⟩:=x;exact lt_size e
 |rng lo hi=>obtain⟨_,_,_,e⟩:=x;exact lt_size e
 |frz ob u=>obtain⟨e,_⟩:=x;exact lt_size e
 |tbl ps=>exact lt_size (show h.get? a=some _ from x)
 |met f y=>exact lt_size (show h.get? a=some _ from x)
 |ext φ=>obtain⟨_,⟨_,e⟩,_⟩:=x;exact lt_size e
theorem Paired.mapP {α β:Type}{F G:α->β->Prop}:∀{l₁:List α} {l₂:List β},Paired F l₁ l₂->(∀a b,F a b->G a b)->Paired G l₁ l₂
 |_,_,.nil,_=>.nil
 |_,_,.cons r t,f=>.cons (f _ _ r) (Paired.mapP t f)
theorem cX.stay (x:cX P w H h a o)(k:∀b u,(b=a\/H b=some (.own a))->h.get? b=some u->h'.get? b=some u)
  (ho:∀b,H b=some (.own a)->H' b=some (.own a)) (ht:∀b xs,H b=some (.tup xs)->H' b=some (.tup xs)):cX P w H' h' a o:=by
 induction o with
 |lst xs=>obtain⟨z,its,n,r,e⟩:=x;exact⟨z,its,n,r,k _ _ (.inl rfl) e⟩
 |tup xs=>obtain⟨z,its,r,ob,e,c⟩:=x;exact⟨z,its,r,ob,k _ _ (.inl rfl) e,c⟩
 |dK kvs=>obtain⟨z,y,vs,r,ob,es,ep,e,c⟩:=x;exact⟨z,y,vs,r,ob,es,ep,k _ _ (.inl rfl) e,c⟩
 |dT kvs=>
  obtain⟨z,y,xs,r,ob,es,ep,e,c⟩:=x;exact⟨z,y,xs,Paired.mapP r λp q z=>⟨z.1,ht _ _ z.2.1,z.2.2⟩,ob,es,ep,k _ _ (.inl rfl) e,c⟩
 |set S n=>obtain⟨ob,es,ep,t,e,c⟩:=x;exact⟨ob,es,ep,t,k _ _ (.inl rfl) e,c⟩
 |ins C dx fs=>
  obtain⟨d,z,ne,e,mA,⟨od,es,ep,e2,c⟩,r⟩:=x;exact⟨ho _ d,z,ne,k _ _ (.inl rfl) e,mA,⟨od,es,ep,k _ _ (.inr d) e2,c⟩,r⟩
 |own y=>obtain⟨ob,e⟩:=x;exact⟨ob,k _ _ (.inl rfl) e⟩
 |xd fs=>obtain⟨mA,⟨od,es,ep,e,c⟩,r⟩:=x;exact⟨mA,⟨od,es,ep,k _ _ (.inl rfl) e,c⟩,r⟩
 |rng lo hi=>obtain⟨t,u,v,e⟩:=x;exact⟨t,u,v,k _ _ (.inl rfl) e⟩
 |frz ob u ih=>obtain⟨e,q⟩:=x;exact⟨k _ _ (.inl rfl) e,ih q⟩
 |tbl ps=>
  have e:h.get? a=some { cls:=.none,data:=.fields ps }:=x;show h'.get? a=some { cls:=.none,data:=.fields ps };exact k a _ (.inl rfl) e
 |met f y=>
  have e:h.get? a=some (methodObj (.ref f) (.ref y)):=x;show h'.get? a=some (methodObj (.ref f) (.ref y));exact k a _ (.inl rfl) e
 |ext φ=>obtain⟨p,⟨o,e⟩,st⟩:=x;exact⟨st _ _ p λo q=>k _ _ (.inl rfl) q,⟨o,k _ _ (.inl rfl) e⟩,st⟩
theorem ji.lt (x:ji P w H h)(e:H a=some o):a<h.objs.size:=(x a o e).lt
theorem ji.fresh (x:ji P w H h)(e:h.objs.size<=a):H a=none:=by
 cases q:H a with
 |none=>rfl
 |some u=>exact absurd (lt_of_lt_of_le (x.lt q) e) (lt_irrefl _)
theorem ji.kept (x:ji P w H h)(k:∀b u,h.get? b=some u->h'.get? b=some u):ji P w H h':=λa o e=>
 (x a o e).stay (λb u _ q=>k b u q) (λ_ q=>q) λ_ _ q=>q
theorem ji.laid (x:ji P w H h)(k:∀b u,h.get? b=some u->h'.get? b=some u)(hp:h.objs.size<=a)(new:cX P w (upd H a o) h' a o):ji P w (upd H a o) h':=λb u e=>by
 have hn:=x.fresh hp;by_cases hb:b=a
 .subst hb;rw[ac]at e;cases e;exact new
 .rw[ah hb]at e;exact(x b u e).stay (λc v _ q=>k c v q) (λc q=>by rw[ah (aj q hn)];exact q) λc xs q=>by rw[ah (aj q hn)];exact q
end
def Rd (H:Hp)(a:Addr)(u:HO):Prop:=H a=some u\/∃o,H a=some (.frz o u)
theorem Rd.ok {P:Program}{w:World}{H:Hp}{h:Heap}{a:Addr}{u:HO}(r:Rd H a u)(x:ji P w H h):cX P w H h a u:=by
 rcases r with r|⟨o,r⟩
 .exact x a u r
 .obtain⟨_,q⟩:=x a _ r;exact q
def Di:Option HO->Prop
 |some (.lst _)=>True
 |some (.dK _)=>True
 |some (.dT _)=>True
 |some (.set _ _)=>True
 |some (.ins _ _ _)=>True
 |some (.ext _)=>True
 |_=>False
section
variable {P:Program}{w:World}{H:Hp}{h h':Heap}{x e:Addr}{o':HO}
theorem ji.write (ok:ji P w H h)(mu:Di (H x))(he:e=x\/H e=some (.own x))(k:∀b u,b≠e->h.get? b=some u->h'.get? b=some u)(heo:∃u,h'.get? e=some u)
  (new:cX P w (upd H x o') h' x o'):ji P w (upd H x o') h':=λb u q=>by
 have nown:∀c y,H c=some (.own y)->c≠x:=λc y r z=>by subst z;rw[r]at mu;exact mu
 have ntup:∀c xs,H c=some (.tup xs)->c≠x:=λc xs r z=>by subst z;rw[r]at mu;exact mu
 by_cases hb:b=x
 .subst hb;rw[ac]at q;cases q;exact new
 .rw[ah hb]at q;by_cases hbe:b=e
  .have q':H b=some (.own x):=by
    rcases he with z|z
    .exact absurd (hbe.trans z) hb
    .rw[hbe];exact z
   rw[q]at q';cases q';obtain⟨v,hv⟩:=heo;exact⟨v,by rw[hbe];exact hv⟩
  .refine(ok b u q).stay (λc v hc r=>k c v ?_ r) (λc r=>by rw[ah (nown c b r)];exact r) λc xs r=>by rw[ah (ntup c xs r)];exact r
   rcases hc with rfl|hc
   .exact hbe
   .rintro rfl;rcases he with z|z
    .exact nown c b hc z
    .rw[hc]at z;cases z;exact hb rfl
end
structure Un (fs ex:List Addr)(H H':Hp)(h h':Heap):Prop where
 keep:∀b o,h.get? b=some o->H b=none->b∉fs->b∉ex->h'.get? b=some o
 slot:∀b o,h.get? b=some o->H b=none->b∈fs->b∉ex->∃sl,h'.get? b=some { o with slots:=sl }
 free:∀b o,h.get? b=some o->H b=none->b∉ex->H' b=none
 there:∀b o,h.get? b=some o->b∉ex->∃o',h'.get? b=some o'
 tups:∀b xs,H b=some (.tup xs)->H' b=some (.tup xs)
 frzs:∀b o u,H b=some (.frz o u)->H' b=some (.frz o u)
 tbls:∀b ps,H b=some (.tbl ps)->∃more,H' b=some (.tbl (ps++more))
section
variable {fs fs' ex ex':List Addr}{H H1 H2:Hp}{h h1 h2 h':Heap}{a x e:Addr}{o:HO}
theorem Un.any (u:Un fs ex H H1 h h1){b:Addr}{ob:Obj}(q:h.get? b=some ob)(n:H b=none)(hx:b∉ex):∃sl,h1.get? b=some { ob with slots:=sl }:=by
 by_cases hb:b∈fs
 .exact u.slot b ob q n hb hx
 .exact⟨ob.slots,u.keep b ob q n hb hx⟩
theorem Un.kept (k:∀b u,h.get? b=some u->h'.get? b=some u):Un fs ex H H h h':=⟨λb ob q _ _ _=>k b ob q,λb ob q _ _ _=>⟨ob.slots,k b ob q⟩,λ_ _ _ n _=>n,λb ob q _=>⟨ob,k b ob q⟩,λ_ _ q=>q,λ_ _ _ q=>q,λ_ ps q=>⟨#[],by rw[q];simp⟩⟩
theorem Un.refl:Un fs ex H H h h:=Un.kept λ_ _ q=>q
theorem Un.laid (k:∀b u,h.get? b=some u->h'.get? b=some u)(hp:h.objs.size<=a)(hn:H a=none):Un fs ex H (upd H a o) h h' where
 keep:=λb u q _ _ _=>k b u q
 slot:=λb u q _ _ _=>⟨u.slots,k b u q⟩
 free:=λb u q n _=>by rw[ah (ne_of_lt (lt_of_lt_of_le (lt_size q) hp))];exact n
 there:=λb u q _=>⟨u,k b u q⟩
 tups:=λb xs q=>by rw[ah (aj q hn)];exact q
 frzs:=λb u xs q=>by rw[ah (aj q hn)];exact q
 tbls:=λb ps q=>⟨#[],by rw[ah (aj q hn),q];simp⟩
theorem Un.write (mu:Di (H x))(he:e=x\/H e=some (.own x))(k:∀b u,b≠e->h.get? b=some u->h'.get? b=some u)(heo:∃u,h'.get? e=some u):Un fs ex H (upd H x o) h h':=by
 have hx:∀b,H b=none->b≠x:=λb n z=>by subst z;rw[n]at mu;exact mu
 have hb:∀b,H b=none->b≠e:=λb n z=>by
  subst z;rcases he with r|r
  .exact hx b n r
  .rw[n]at r;cases r
 have hm:∀b u,H b=some u->¬Di (some u)->b≠x:=λb u q nm z=>by subst z;rw[q]at mu;exact nm mu
 refine⟨λb u q n _ _=>k b u (hb b n) q,λb u q n _ _=>⟨u.slots,k b u (hb b n) q⟩,λb u q n _=>by rw[ah (hx b n)];exact n,λb u q _=>?_,
  λb xs q=>by rw[ah (hm b _ q λz=>z)];exact q,λb u xs q=>by rw[ah (hm b _ q λz=>z)];exact q,λb ps q=>⟨#[],by rw[ah (hm b _ q λz=>z),q];simp⟩⟩
 by_cases hbe:b=e
 .subst hbe;exact heo
 .exact⟨u,k b u hbe q⟩
end
def F6 (h:Heap)(H:Hp):List Addr:=(List.range h.objs.size).filter λa=>(H a).isSome
def oE (h:Heap)(H:Hp):Heap:=PySem.W.hideAll h (F6 h H)
theorem x6 (h:Heap)(H:Hp):(oE h H).objs.size=h.objs.size:=PySem.W.hideAll_size _ _
theorem zz {h:Heap}{H:Hp}{b:Addr}{o:Obj}(e:h.get? b=some o)(n:H b=none):(oE h H).get? b=some o:=PySem.W.hideAll_get _ e λhm=>by have q:(H b).isSome=true:=(mem_filter.mp hm).2;rw[n]at q;simp at q
theorem BS {h:Heap}{H:Hp}{b:Addr}{o:Obj}(e:(oE h H).get? b=some o):h.get? b=some o/\H b=none:=by
 have e':h.get? b=some o:=PySem.W.of_hideAll (F6 h H) e;refine⟨e',?_⟩;cases q:H b with
 |none=>rfl
 |some x=>
  have hm:b∈F6 h H:=mem_filter.mpr ⟨mem_range.mpr (lt_size e'),by simp[q]⟩;have z:(oE h H).get? b=none:=PySem.W.hideAll_none (F6 h H) hm;rw[z]at e;cases e
structure Mod (K:PySem.W.Frag)(mg:Str->Option Value)(base:Heap):Prop where
 kin:K.In base
 glob:base.Ns mainGlobals mg
 blt:∃mb,base.Ns builtinsNs mb/\∀x:Str,x ≠ "__name__"->mb x=bootBuiltins x
 nolimit:base.NoLimit
structure Cx where
 prog:Program
 w:World
 K:PySem.W.Frag
 mg:Str->Option Value
 base:Heap
 A:Around
 N:List Str
 s_0:Shared
 H_0:Hp
 env:Env
 outer:List Env
 stack:List Env
 ex:List Addr
 fn:Str->Bool
 calm:Bool
 pn:List (Addr×Obj)
 xe:Value->Shared->Prop
def zA (l:List Env):List Addr:=l.filterMap (·.frame)
abbrev Cx.fs (X:Cx):List Addr:=zA X.outer
def D5 (sc:Scope)(x:Str):Prop:=sc.names.lookup x=some .local\/sc.names.lookup x=some .cell\/sc.names.lookup x=some .free
def F7 (sc:Scope)(x:Str):Prop:=sc.names.lookup x=some .local\/sc.names.lookup x=some .cell
def Ge (env:Env)(h:Heap)(m:Str->Option Value)(x:Str)(u:Value):Prop:=(env.kindOf x=some .local/\m x=some u)\/((env.kindOf x=some .cell\/env.kindOf x=some .free)/\∃c,env.cells.lookup x=some c/\h.IsCell c (some u))
structure Cx.Ok (X:Cx):Prop where
 mod:Mod X.K X.mg X.base
 kind:X.env.scope.kind = .function
 glob:X.env.globals=mainGlobals
 blt:X.env.builtins=builtinsNs
 above:X.s_0.heap.objs.size<=X.env.locals
 inj:∀x y c,X.env.cells.lookup x=some c->X.env.cells.lookup y=some c->x=y
 has:∀x,(X.env.kindOf x=some .cell\/X.env.kindOf x=some .free)->∃c,X.env.cells.lookup x=some c
 cab:∀x c,X.fn x=true->X.env.cells.lookup x=some c->X.s_0.heap.objs.size<=c
 hd:X.calm=true->X.A.handled=none
 frames:X.A.frames=some X.stack
 stk:X.stack=X.outer\/(X.stack=X.env::X.outer/\X.env.frame=some X.env.locals)
 exf:∀b∈X.ex,b≠X.env.locals/\∀x c,X.env.cells.lookup x=some c->c≠b
 bs:∀b o,X.base.get? b=some o->X.s_0.heap.get? b=some o/\X.H_0 b=none
 bsz:X.base.objs.size<=X.s_0.heap.objs.size
 noex:∀b o,X.base.get? b=some o->b∉X.ex
 exfs:∀b∈X.ex,b∉X.fs
 funs:X.s_0.heap.FunFrames X.base X.outer
 frf:∀b∈X.fs,X.H_0 b=none
structure aH (X:Cx)(pins:List (Addr×Obj))(σ:List (Option V))(H:Hp)(s:Shared):Prop where
 ok:X.Ok
 os:s.os=X.s_0.os
 bare:AllBare s.gens
 base:Un X.fs X.ex X.H_0 H X.s_0.heap s.heap
 loc:∃m,s.heap.Ns X.env.locals m/\∀(i:Nat) (x:Str) (v:V),X.N[i]?=some x->σ[i]?=some (some v)->D5 X.env.scope x->∃u,bI v u/\Ge X.env s.heap m x u
 cell:∀x c,X.env.cells.lookup x=some c->∃v,s.heap.IsCell c v
 free:H X.env.locals=none
 freeC:∀x c,X.env.cells.lookup x=some c->H c=none
 pin:∀p∈X.pn++pins,s.heap.get? p.1=some p.2/\H p.1=none/\p.1≠X.env.locals/\p.1∉X.fs/\∀v,p.2.data≠.cell v
 hok:ji X.prog X.w H s.heap
 len:σ.length=X.N.length
section
variable {X:Cx}{pins:List (Addr×Obj)}{σ:List (Option V)}{H H':Hp}{s:Shared}{h':Heap}
theorem Cx.Ok.nofr (ok:X.Ok){b:Addr}{o:Obj}(e:X.base.get? b=some o):b∉X.fs:=λhb=>by have:=(ok.funs.mem hb).1;rw[e]at this;cases this
theorem aH.bs (I:aH X pins σ H s):∀b o,X.base.get? b=some o->s.heap.get? b=some o/\H b=none:=λb o e=>
 ⟨I.base.keep b o (I.ok.bs b o e).1 (I.ok.bs b o e).2 (I.ok.nofr e) (I.ok.noex b o e),I.base.free b o (I.ok.bs b o e).1 (I.ok.bs b o e).2 (I.ok.noex b o e)⟩
theorem aH.bk (I:aH X pins σ H s):∀b o,X.base.get? b=some o->s.heap.get? b=some o:=λb o e=>(I.bs b o e).1
theorem aH.mod (I:aH X pins σ H s):Mod X.K X.mg X.base:=I.ok.mod
theorem aH.kIn (I:aH X pins σ H s):X.K.In s.heap:=I.ok.mod.kin.keeps I.bk
theorem aH.nolimit (I:aH X pins σ H s):s.heap.NoLimit:=I.ok.mod.nolimit.keeps I.bk
theorem aH.lt (I:aH X pins σ H s):X.env.locals<s.heap.objs.size:=let ⟨_,hn,_⟩:=I.loc;hn.lt
theorem aH.sz (I:aH X pins σ H s):X.s_0.heap.objs.size<=s.heap.objs.size:=le_trans I.ok.above (le_of_lt I.lt)
theorem aH.nofs (I:aH X pins σ H s){a:Addr}(h:s.heap.objs.size<=a):a∉X.fs:=λhb=>by obtain⟨_,o,ho,_⟩:=I.ok.funs.mem hb;exact absurd (lt_of_lt_of_le (lt_size ho) (le_trans I.sz h)) (lt_irrefl _)
theorem aH.cne (I:aH X pins σ H s):∀x c,X.env.cells.lookup x=some c->c≠X.env.locals:=λx c e z=>by obtain⟨v,o,ho,hd⟩:=I.cell x c e;obtain⟨m,⟨o',es,ep,ho',hd',_⟩,_⟩:=I.loc;rw[z,ho']at ho;cases ho;rw[hd']at hd;cases hd
theorem aH.funs (I:aH X pins σ H s):s.heap.FunFrames X.base X.outer:=by
 have all:∀(l:List Env),(∀b∈zA l,b∈X.fs)->X.s_0.heap.FunFrames X.base l->s.heap.FunFrames X.base l:=by
  intro l
  induction l with
  |nil=>intro _ _;trivial
  |cons env r ih=>
   intro hs hl;obtain⟨hk,⟨L,o,hf,hn,ho,hd⟩,hr⟩:=hl;have hL:L∈X.fs:=hs L (by unfold zA;rw[List.filterMap_cons,hf];exact mem_cons_self);obtain⟨sl,e⟩:=I.base.slot L o ho (I.ok.frf L hL) hL λz=>I.ok.exfs L z hL;exact⟨hk,⟨L,_,hf,hn,e,hd⟩,ih (λb hb=>hs b (by unfold zA;rw[List.filterMap_cons,hf];exact mem_cons_of_mem _ hb)) hr⟩
 exact all X.outer (λ_ hb=>hb) I.ok.funs
theorem aH.stack (I:aH X pins σ H s):s.heap.FunFrames X.base X.stack:=by
 rcases I.ok.stk with e|⟨e,hf⟩
 .rw[e];exact I.funs
 .rw[e];obtain⟨m,hn,_⟩:=I.loc;refine .cons (by rw[I.ok.kind];decide) hf hn ?_ I.funs;exact Heap.get?_none_of_le (le_trans I.ok.bsz I.ok.above)
theorem aH.stkSub (I:aH X pins σ H s):∀b∈zA X.stack,b∈X.env.locals::X.fs:=λb hb=>by
 rcases I.ok.stk with e|⟨e,hf⟩
 .rw[e]at hb;exact mem_cons_of_mem _ hb
 .rw[e]at hb;unfold zA at hb;rw[List.filterMap_cons,hf]at hb;exact hb
theorem aH.stkFree (I:aH X pins σ H s):∀b∈zA X.stack,H b=none:=λb hb=>by
 rcases mem_cons.mp (I.stkSub b hb)with e|hb
 .rw[e];exact I.free
 .obtain⟨_,o,ho,_⟩:=I.ok.funs.mem hb;exact I.base.free b o ho (I.ok.frf b hb) λz=>I.ok.exfs b z hb
theorem aH.step {g':Array GenState}{t':Nat}{d':Drawn}{ch:List Addr}(I:aH X pins σ H s)
  (hch:∀b∈ch,(b∈X.ex\/X.s_0.heap.objs.size<=b)/\b≠X.env.locals/\(∀x c,X.env.cells.lookup x=some c->c≠b)/\∀p∈X.pn++pins,p.1≠b)
  (keep:∀b o,b≠X.env.locals->b∉X.fs->b∉ch->s.heap.get? b=some o->H b=none->h'.get? b=some o)
  (slot:∀b o,b≠X.env.locals->b∈X.fs->b∉ch->s.heap.get? b=some o->H b=none->∃sl,h'.get? b=some { o with slots:=sl }) (free:∀b o,b∉ch->s.heap.get? b=some o->H b=none->H' b=none)
  (there:∀b o,b∉ch->s.heap.get? b=some o->∃o',h'.get? b=some o')
  (tups:∀b xs,H b=some (.tup xs)->H' b=some (.tup xs)) (frzs:∀b o u,H b=some (.frz o u)->H' b=some (.frz o u)) (tbls:∀b ps,H b=some (.tbl ps)->∃more,H' b=some (.tbl (ps++more)))
  (ns:∀m,s.heap.Ns X.env.locals m->h'.Ns X.env.locals m) (hok:ji X.prog X.w H' h') (hg:AllBare g') :
  aH X pins σ H' { s with heap:=h',gens:=g',drawn:=d',toks:=t' }:=by
 have neL:∀b o,X.s_0.heap.get? b=some o->b≠X.env.locals:=λb o e=>ne_of_lt (lt_of_lt_of_le (lt_size e) I.ok.above);have neC:∀b o,X.s_0.heap.get? b=some o->b∉X.ex->b∉ch:=λb o e hx hb=>by
  rcases(hch b hb).1 with z|z
  .exact hx z
  .exact absurd (lt_of_lt_of_le (lt_size e) z) (lt_irrefl _)
 have cellK:∀x c,X.env.cells.lookup x=some c->∀v,s.heap.IsCell c v->h'.IsCell c v:=λx c e v ⟨o,ho,hd⟩=>by
  have nch:c∉ch:=λz=>(hch c z).2.2.1 x c e rfl;by_cases hc:c∈X.fs
  .obtain⟨sl,q⟩:=slot c o (I.cne x c e) hc nch ho (I.freeC x c e);exact⟨_,q,hd⟩
  .exact⟨o,keep c o (I.cne x c e) hc nch ho (I.freeC x c e),hd⟩
 refine⟨I.ok,I.os,hg,⟨λb o e n hb hx=>?_,λb o e n hb hx=>?_,λb o e n hx=>?_,λb o e hx=>?_,λb xs e=>tups b xs (I.base.tups b xs e),λb o xs e=>frzs b o xs (I.base.frzs b o xs e),λb ps e=>?_⟩,?_,λx c e=>?_,?_,λx c e=>?_,λp hp=>?_,hok,I.len⟩
 .exact keep b o (neL b o e) hb (neC b o e hx) (I.base.keep b o e n hb hx) (I.base.free b o e n hx)
 .obtain⟨sl,e1⟩:=I.base.slot b o e n hb hx;obtain⟨sl',e2⟩:=slot b _ (neL b o e) hb (neC b o e hx) e1 (I.base.free b o e n hx);exact⟨sl',e2⟩
 .obtain⟨o',e1⟩:=I.base.there b o e hx;exact free b o' (neC b o e hx) e1 (I.base.free b o e n hx)
 .obtain⟨o',e1⟩:=I.base.there b o e hx;exact there b o' (neC b o e hx) e1
 .obtain⟨m1,e1⟩:=I.base.tbls b ps e;obtain⟨m2,e2⟩:=tbls b _ e1;exact⟨m1++m2,by rw[e2,Array.append_assoc]⟩
 .obtain⟨m,hn,hl⟩:=I.loc;refine⟨m,ns m hn,λi x v e1 e2 e3=>?_⟩;obtain⟨u,r,l⟩:=hl i x v e1 e2 e3;refine⟨u,r,?_⟩;rcases l with l|⟨k,c,e,z⟩
  .exact .inl l
  .exact .inr ⟨k,c,e,cellK x c e _ z⟩
 .obtain⟨v,z⟩:=I.cell x c e;exact⟨v,cellK x c e v z⟩
 .obtain⟨m,⟨o,_,_,ho,_⟩,_⟩:=I.loc;exact free _ o (λz=>(hch _ z).2.1 rfl) ho I.free
 .obtain⟨v,o,ho,hd⟩:=I.cell x c e;exact free c o (λz=>(hch c z).2.2.1 x c e rfl) ho (I.freeC x c e)
 .obtain⟨e,n,ne,nf,d⟩:=I.pin p hp;have nch:p.1∉ch:=λz=>(hch p.1 z).2.2.2 p hp rfl;exact⟨keep p.1 p.2 ne nf nch e n,free p.1 p.2 nch e n,ne,nf,d⟩
theorem aH.un {t':Nat}(I:aH X pins σ H s)(u:Un X.fs [] H H' s.heap h')(hok:ji X.prog X.w H' h'):aH X pins σ H' { s with heap:=h',toks:=t' }:=by
 obtain⟨m,⟨o,es,ep,ho,r⟩,_⟩:=id I.loc;obtain⟨sl,hL⟩:=u.any ho I.free (by simp);exact I.step (g':=s.gens) (d':=s.drawn) (ch:=[]) (λ_ z=>nomatch z) (λb o _ hb _ e n=>u.keep b o e n hb (by simp)) (λb o _ hb _ e n=>u.slot b o e n hb (by simp)) (λb o _ e n=>u.free b o e n (by simp)) (λb o _ e=>u.there b o e (by simp)) u.tups u.frzs u.tbls (λm' hm=>by
  obtain⟨o',es',ep',ho',r'⟩:=hm;rw[ho]at ho';cases ho';exact⟨_,es',ep',hL,r'⟩) hok I.bare
theorem aH.call {g':Array GenState}{t':Nat}{d':Drawn}{ch:List Addr}(I:aH X pins σ H s)(u:Un (zA X.stack) ch H H' s.heap h')(hok:ji X.prog X.w H' h')(hg:AllBare g')
  (hch:∀b∈ch,(b∈X.ex\/X.s_0.heap.objs.size<=b)/\b≠X.env.locals/\(∀x c,X.env.cells.lookup x=some c->c≠b)/\∀p∈X.pn++pins,p.1≠b) :
  aH X pins σ H' { s with heap:=h',gens:=g',drawn:=d',toks:=t' }:=by
 obtain⟨m,⟨o,es,ep,ho,r⟩,_⟩:=id I.loc;obtain⟨sl,hL⟩:=u.any ho I.free λz=>(hch _ z).2.1 rfl;exact I.step (ch:=ch) hch (λb o hL hb hc e n=>u.keep b o e n (λz=>(mem_cons.mp (I.stkSub b z)).elim hL hb) hc) (λb o _ _ hc e n=>u.any e n hc) (λb o hc e n=>u.free b o e n hc) (λb o hc e=>u.there b o e hc) u.tups u.frzs u.tbls (λm' hm=>by
  obtain⟨o',es',ep',ho',r'⟩:=hm;rw[ho]at ho';cases ho';exact⟨_,es',ep',hL,r'⟩) hok hg
theorem aH.turned {t':Nat}{it:Addr}(I:aH X pins σ H s)(k:∀b o,b≠it->s.heap.get? b=some o->h'.get? b=some o)(hn:H it=none)(hL:it≠X.env.locals)
  (h1:it∈X.ex\/X.s_0.heap.objs.size<=it) (h2:∀x c,X.env.cells.lookup x=some c->c≠it) (h3:∀p∈X.pn++pins,p.1≠it):aH X pins σ H { s with heap:=h',toks:=t' }:=by
 have nit:∀b u,H b=some u->b≠it:=λb u e z=>by rw[z,hn]at e;cases e
 refine I.step (g':=s.gens) (d':=s.drawn) (ch:=[it]) (λb hb=>?_) (λb o _ _ hc e _=>k b o (λz=>hc (by simp[z])) e) (λb o _ _ hc e _=>⟨o.slots,k b o (λz=>hc (by simp[z])) e⟩) (λ_ _ _ _ n=>n)
  (λb o hc e=>⟨o,k b o (λz=>hc (by simp[z])) e⟩) (λ_ _ e=>e) (λ_ _ _ e=>e) (λb ps e=>⟨#[],by rw[e];simp⟩) (λm hm=>?_) (λb u e=>?_) I.bare
 .have e:b=it:=by simpa using hb
  subst e;exact⟨h1,hL,h2,h3⟩
 .obtain⟨o,es,ep,ho,r⟩:=hm;exact⟨o,es,ep,k _ o (Ne.symm hL) ho,r⟩
 .refine(I.hok b u e).stay (λc v hc q=>k c v ?_ q) (λ_ q=>q) λ_ _ q=>q;rcases hc with z|z
  .rw[z];exact nit b u e
  .exact nit c _ z
theorem aH.tok (I:aH X pins σ H s)(t:Nat):aH X pins σ H { s with toks:=t }:=I.un (h':=s.heap) (t':=t) Un.refl I.hok
theorem aH.kept {t':Nat}(I:aH X pins σ H s)(k:∀b u,s.heap.get? b=some u->h'.get? b=some u):aH X pins σ H { s with heap:=h',toks:=t' }:=I.un (Un.kept k) (I.hok.kept k)
theorem aH.laid {a:Addr}{o:HO}{t':Nat}(I:aH X pins σ H s)(k:∀b u,s.heap.get? b=some u->h'.get? b=some u)(hp:s.heap.objs.size<=a)(new:cX X.prog X.w (upd H a o) h' a o) :
  aH X pins σ (upd H a o) { s with heap:=h',toks:=t' }:=I.un (Un.laid k hp (I.hok.fresh hp)) (I.hok.laid k hp new)
theorem aH.write {x e:Addr}{o:HO}{t':Nat}(I:aH X pins σ H s)(mu:Di (H x))(he:e=x\/H e=some (.own x))(k:∀b u,b≠e->s.heap.get? b=some u->h'.get? b=some u)(heo:∃u,h'.get? e=some u)
  (new:cX X.prog X.w (upd H x o) h' x o):aH X pins σ (upd H x o) { s with heap:=h',toks:=t' }:=I.un (Un.write mu he k heo) (I.hok.write mu he k heo new)
theorem aH.weak {σ':List (Option V)}(I:aH X pins σ H s)(hl:σ'.length=σ.length)(w:∀(i:Nat) v,σ'[i]?=some (some v)->σ[i]?=some (some v)):aH X pins σ' H s:=⟨I.ok,I.os,I.bare,I.base,let ⟨m,hn,hl'⟩:=I.loc;⟨m,hn,λi x v e1 e2 e3=>hl' i x v e1 (w i v e2) e3⟩,I.cell,I.free,I.freeC,I.pin,I.hok,hl.trans I.len⟩
theorem aH.pins_of {pins':List (Addr×Obj)}(I:aH X pins σ H s)(h:∀p∈pins',s.heap.get? p.1=some p.2/\H p.1=none/\p.1≠X.env.locals/\p.1∉X.fs/\∀v,p.2.data≠.cell v):aH X pins' σ H s:=⟨I.ok,I.os,I.bare,I.base,I.loc,I.cell,I.free,I.freeC,λp hp=>(mem_append.mp hp).elim (λz=>I.pin p (mem_append_left _ z)) (h p),I.hok,I.len⟩
theorem kY {N:List Str}(hN:N.Nodup){i j:Nat}{x:Str}(a:N[i]?=some x)(b:N[j]?=some x):i=j:=by obtain⟨h1,e1⟩:=List.getElem?_eq_some_iff.mp a;obtain⟨h2,e2⟩:=List.getElem?_eq_some_iff.mp b;exact(List.getElem_inj hN).mp (e1.trans e2.symm)
theorem qp {M:Model}{A:Around}{E:Value->Shared->Prop}{i:Nat}{x:Str}{v:V}{u:Value}{Q:Unit->Shared->Prop}(I:aH X pins σ H s)(hN:X.N.Nodup)(hi:X.N[i]?=some x)(hx:F7 X.env.scope x)(r:bI v u)
  (h:∀s',aH X pins (σ.set i (some v)) H s'->(∃a,SameBut a s.heap s'.heap/\(a=X.env.locals\/X.env.cells.lookup x=some a))->Q () s') (hf:X.fn x=true\/X.env.scope.names.lookup x=some .local:=by first|exact .inl rfl|exact .inr rfl|assumption):wpAny M A (storeName X.env x u) Q E s:=by
 obtain⟨m,hn,hl⟩:=id I.loc;have hcls:(X.env.scope.kind==.class||(X.env.scope.kind==.module&&X.env.locals != X.env.globals))=false:=by rw[I.ok.kind];rfl
 have hiσ:i<σ.length:=by rw[I.len];exact(List.getElem?_eq_some_iff.mp hi).1
 have cne:=I.cne;have tracked:∀{a:Addr} {h':Heap},(∃o,s.heap.get? a=some o/\H a=none)->SameBut a s.heap h'->ji X.prog X.w H h':=λ{a h'} ha hs b ob e=>by
  obtain⟨_,_,hfree⟩:=ha;refine(I.hok b ob e).stay (λc w' hc q=>(hs.2 c ?_).trans q) (λ_ q=>q) λ_ _ q=>q;rintro rfl;rcases hc with rfl|hc
  .rw[hfree]at e;cases e
  .rw[hfree]at hc;cases hc
 rcases hx with hk|hk
 .refine wpAny_storeName_local hk hn (λh' hn' hs=>?_) hcls;obtain⟨oL,_,_,hoL,_⟩:=id hn;refine h _ ⟨I.ok,I.os,I.bare,⟨λb o e n hb hx=>?_,λb o e n hb hx=>?_,I.base.free,λb o e hx=>?_,I.base.tups,I.base.frzs,I.base.tbls⟩,⟨_,hn',λj y v' e1 e2 e3=>?_⟩,λy c e=>?_,I.free,I.freeC,λp hp=>?_,tracked ⟨oL,hoL,I.free⟩ hs,by simpa using I.len⟩ ⟨_,hs,.inl rfl⟩
  .exact(hs.2 b (ne_of_lt (lt_of_lt_of_le (lt_size e) I.ok.above))).trans (I.base.keep b o e n hb hx)
  .obtain⟨sl,e1⟩:=I.base.slot b o e n hb hx;exact⟨sl,(hs.2 b (ne_of_lt (lt_of_lt_of_le (lt_size e) I.ok.above))).trans e1⟩
  .obtain⟨o',e1⟩:=I.base.there b o e hx;exact⟨o',(hs.2 b (ne_of_lt (lt_of_lt_of_le (lt_size e) I.ok.above))).trans e1⟩
  .by_cases hj:j=i
   .subst hj;rw[hi]at e1;cases e1;rw[List.getElem?_set_self hiσ]at e2;cases e2;exact⟨u,r,.inl ⟨hk,by simp⟩⟩
   .rw[List.getElem?_set_ne (Ne.symm hj)]at e2;obtain⟨u',r',q⟩:=hl j y v' e1 e2 e3;refine⟨u',r',?_⟩;rcases q with⟨k,e⟩|⟨k,c,e,z⟩
    .refine .inl ⟨k,?_⟩;have:y≠x:=λe=>hj (kY hN e1 (e▸hi));simp[this,e]
    .exact .inr ⟨k,c,e,z.sameBut hs (cne y c e)⟩
  .obtain⟨w',z⟩:=I.cell y c e;exact⟨w',z.sameBut hs (cne y c e)⟩
  .obtain⟨e,n,ne,nf,d⟩:=I.pin p hp;exact⟨(hs.2 p.1 ne).trans e,n,ne,nf,d⟩
 .have hfn:X.fn x=true:=by
   rcases hf with z|z
   .exact z
   .rw[z]at hk;cases hk
  obtain⟨c,hc⟩:=I.ok.has x (.inl hk);obtain⟨w',z⟩:=I.cell x c hc;refine wpAny_storeName_cell I.ok.kind hk hc z (λh' hc' hs=>?_);obtain⟨oc,hoc,hocd⟩:=id z;refine h { s with heap:=h' } ⟨I.ok,I.os,I.bare,⟨λb o e n hb hx=>?_,λb o e n hb hx=>?_,I.base.free,λb o e hx=>?_,I.base.tups,I.base.frzs,I.base.tbls⟩,⟨m,hn.sameBut hs (Ne.symm (cne x c hc)),λj y v' e1 e2 e3=>?_⟩,λy c' e=>?_,I.free,I.freeC,λp hp=>?_,tracked ⟨oc,hoc,I.freeC x c hc⟩ hs,by simpa using I.len⟩ ⟨c,hs,.inr hc⟩
  .exact(hs.2 b (ne_of_lt (lt_of_lt_of_le (lt_size e) (I.ok.cab x c hfn hc)))).trans (I.base.keep b o e n hb hx)
  .obtain⟨sl,e1⟩:=I.base.slot b o e n hb hx;exact⟨sl,(hs.2 b (ne_of_lt (lt_of_lt_of_le (lt_size e) (I.ok.cab x c hfn hc)))).trans e1⟩
  .obtain⟨o',e1⟩:=I.base.there b o e hx;exact⟨o',(hs.2 b (ne_of_lt (lt_of_lt_of_le (lt_size e) (I.ok.cab x c hfn hc)))).trans e1⟩
  .by_cases hj:j=i
   .subst hj;rw[hi]at e1;cases e1;rw[List.getElem?_set_self hiσ]at e2;cases e2;exact⟨u,r,.inr ⟨.inl hk,c,hc,hc'⟩⟩
   .rw[List.getElem?_set_ne (Ne.symm hj)]at e2;obtain⟨u',r',q⟩:=hl j y v' e1 e2 e3;refine⟨u',r',?_⟩;rcases q with q|⟨k,c',e,z'⟩
    .exact .inl q
    .refine .inr ⟨k,c',e,z'.sameBut hs ?_⟩;rintro rfl;exact hj (kY hN e1 (I.ok.inj _ _ _ e hc▸hi))
  .by_cases hcc:c'=c
   .subst hcc;exact⟨_,hc'⟩
   .obtain⟨w2,z2⟩:=I.cell y c' e;exact⟨w2,z2.sameBut hs hcc⟩
  .obtain⟨e,n,ne,nf,d⟩:=I.pin p hp;refine⟨(hs.2 p.1 ?_).trans e,n,ne,nf,d⟩;intro q;rw[q,hoc]at e;have q':oc=p.2:=Option.some.inj e;exact d w' (by rw[<- q'];exact hocd)
theorem tM {M:Model}{A:Around}{E:Value->Shared->Prop}{i:Nat}{x:Str}{v:V}{u:Value}{Q:Unit->Shared->Prop}(I:aH X pins σ H s)(hN:X.N.Nodup)(hi:X.N[i]?=some x)(hx:F7 X.env.scope x)(r:bI v u)
  (h:∀s',aH X pins (σ.set i (some v)) H s'->Q () s') (hf:X.fn x=true\/X.env.scope.names.lookup x=some .local:=by first|exact .inl rfl|exact .inr rfl|assumption):wpAny M A (storeName X.env x u) Q E s:=
 qp I hN hi hx r (λs' I' _=>h s' I') hf
theorem aH.call' {s':Shared}{ch:List Addr}(I:aH X pins σ H s)(ho:s'.os=s.os)(u:Un (zA X.stack) ch H H' s.heap s'.heap)(hok:ji X.prog X.w H' s'.heap)(hg:AllBare s'.gens)
  (hch:∀b∈ch,(b∈X.ex\/X.s_0.heap.objs.size<=b)/\b≠X.env.locals/\(∀x c,X.env.cells.lookup x=some c->c≠b)/\∀p∈X.pn++pins,p.1≠b):aH X pins σ H' s':=by
 obtain⟨h',g',d',t',o'⟩:=s';have e:o'=s.os:=ho;subst e;exact I.call (g':=g') (t':=t') (d':=d') u hok hg hch
end
abbrev XK:=Value->Option Addr->Hp->Prop
abbrev St:=List (Option V)
abbrev VK:=V->Hp->Prop
abbrev TE:=St->Hp->VK->Prop
abbrev TT:=St->Hp->(Bool->Hp->Prop)->Prop
abbrev TA:=St->Hp->(List V->Hp->Prop)->Prop
structure jj where
 nx:St->Hp->Prop
 rt:VK
 bk:St->Hp->Prop:=λ_ _=>False
 ct:St->Hp->Prop:=λ_ _=>False
abbrev TS:=jj->St->Hp->Prop
def EP (X:Cx)(pins:List (Addr×Obj))(σ:St)(Q:VK)(u:Value)(s':Shared):Prop:=∃v H',aH X pins σ H' s'/\bI v u/\Q v H'
def TP (X:Cx)(pins:List (Addr×Obj))(σ:St)(Q:Bool->Hp->Prop)(b:Bool)(s':Shared):Prop:=∃H',aH X pins σ H' s'/\Q b H'
def AP (X:Cx)(pins:List (Addr×Obj))(σ:St)(Q:List V->Hp->Prop)(us:List Value)(s':Shared):Prop:=∃vs H',aH X pins σ H' s'/\bn vs us/\Q vs H'
def SP (X:Cx)(pins:List (Addr×Obj))(D:jj)(f:Flow)(s':Shared):Prop:=match f with
 |.next=>∃σ' H',aH X pins σ' H' s'/\D.nx σ' H'
 |.brk=>∃σ' H',aH X pins σ' H' s'/\D.bk σ' H'
 |.cont=>∃σ' H',aH X pins σ' H' s'/\D.ct σ' H'
 |.ret u=>∃v σ' H',aH X pins σ' H' s'/\bI v u/\D.rt v H'
def PE (X:Cx)(e:Expr)(t:TE):Prop:=∀(pins:List (Addr×Obj)) (s:Shared) (σ:St) (H:Hp) (Q:VK),aH X pins σ H s->t σ H Q->wpAny (model X.prog X.w) X.A (eval e X.env) (EP X pins σ Q) X.xe s
def PT (X:Cx)(e:Expr)(t:TT):Prop:=∀(pins:List (Addr×Obj)) (s:Shared) (σ:St) (H:Hp) (Q:Bool->Hp->Prop),aH X pins σ H s->t σ H Q->wpAny (model X.prog X.w) X.A (isTrue e X.env (eval e X.env)) (TP X pins σ Q) X.xe s
def PW (X:Cx)(e:Expr)(t:TT):Prop:=∀(whole:Sem Value) (pins:List (Addr×Obj)) (s:Shared) (σ:St) (H:Hp) (Q:Bool->Hp->Prop),aH X pins σ H s->t σ H Q->wpAny (model X.prog X.w) X.A (isTrue e X.env whole) (TP X pins σ Q) X.xe s
theorem PW.pt {X:Cx}{e:Expr}{t:TT}(h:PW X e t):PT X e t:=h _
def PA (X:Cx)(es:List Expr)(t:TA):Prop:=∀(pos:Pos) (pins:List (Addr×Obj)) (s:Shared) (σ:St) (H:Hp) (Q:List V->Hp->Prop),aH X pins σ H s->t σ H Q->wpAny (model X.prog X.w) X.A (spliced (backTo pos (starEach es X.env))) (AP X pins σ Q) X.xe s
def PS (X:Cx)(st:Stmt)(t:TS):Prop:=∀(pins:List (Addr×Obj)) (s:Shared) (σ:St) (H:Hp) (D:jj),aH X pins σ H s->t D σ H->wpAny (model X.prog X.w) X.A (exec st X.env) (SP X pins D) X.xe s
def wM (X:Cx)(st:List Stmt)(t:TS):Prop:=∀(pins:List (Addr×Obj)) (s:Shared) (σ:St) (H:Hp) (D:jj),aH X pins σ H s->t D σ H->wpAny (model X.prog X.w) X.A (execs st X.env) (SP X pins D) X.xe s
theorem cx {α:Type}{t:Sem α}{Q Q':α->Shared->Prop}{M:Model}{A:Around}{E:Value->Shared->Prop}{s:Shared}(h:wpAny M A t Q E s)(hQ:∀a s,Q a s->Q' a s):wpAny M A t Q' E s:=wpAny_mono h hQ λ_ _ x=>x
section
variable {X:Cx}
def fK (i:Nat):TE:=λσ H Q=>∃v,σ[i]?=some (some v)/\Q v H
def tC (v:V):TE:=λ_ H Q=>Q v H
theorem zB {i:Nat}{x:Str}{pos:Pos}(hN:X.N[i]?=some x)(hv:D5 X.env.scope x)(hd:(x==("__debug__":Str))=false:=by decide)(hcd:(x==("__classdict__":Str))=false:=by decide):PE X (.Name x pos) (fK i):=by
 intro pins s σ H Q I h;obtain⟨v,e,h⟩:=h;obtain⟨m,hn,hl⟩:=I.loc;obtain⟨u,r,l⟩:=hl i x v hN e hv;have fin:EP X pins σ Q u s:=⟨v,H,I,r,h⟩
 rcases l with⟨hk,hm⟩|⟨hk,c,hc,hcell⟩
 .exact wpAny_Name (wpAny_loadName_local I.ok.kind hk hn hm fin) hd
 .rcases hk with hk|hk
  .exact wpAny_Name (wpAny_loadName_cell I.ok.kind hk hc hcell fin) hd
  .exact wpAny_Name (wpAny_loadName_free I.ok.kind hk hc hcell fin hcd) hd
theorem al {i j pos}:PE X (.Constant (.int i) j pos) (tC (.int i)):=λ_ _ _ H _ I h=>wpAny_Constant_int ⟨.int i,H,I.tok _,⟨_,rfl⟩,h⟩
theorem qr {b j pos}:PE X (.Constant (.bool b) j pos) (tC (.bl b)):=λ_ _ _ H _ I h=>Constant_bool ⟨.bl b,H,I,rfl,h⟩
theorem kG {j pos}:PE X (.Constant .none j pos) (tC .non):=λ_ _ _ H _ I h=>Constant_none ⟨.non,H,I,rfl,h⟩
theorem iJ {x j pos}:PE X (.Constant (.str x) j pos) (tC (.str x)):=λ_ _ _ H _ I h=>Calls.Constant_str ⟨.str x,H,I.tok _,⟨_,rfl⟩,h⟩
def Gl (X:Cx)(x:Str):Prop:=X.env.kindOf x=some .globalImplicit
theorem nM {E:Value->Shared->Prop}{pins:List (Addr×Obj)}{s:Shared}{σ:St}{H:Hp}{x:Str}{u:Value}{pos:Pos}{Q:Value->Shared->Prop}(I:aH X pins σ H s)(hg:Gl X x)(hm:X.mg x=some u)(h:Q u s)
  (hd:(x==("__debug__":Str))=false:=by decide):wpAny (model X.prog X.w) X.A (eval (.Name x pos) X.env) Q E s:=
 Calls.Name_function_global I.ok.kind hg (Calls.loadGlobal_global (by rw[I.ok.glob];exact I.mod.glob.keeps I.bk) hm h) hd
theorem iK {E:Value->Shared->Prop}{pins:List (Addr×Obj)}{s:Shared}{σ:St}{H:Hp}{x:Str}{u:Value}{pos:Pos}{Q:Value->Shared->Prop}(I:aH X pins σ H s)(hg:Gl X x)(hm:X.mg x=none)(hv:bootBuiltins x=some u)(h:Q u s)
  (hn:x ≠ "__name__":=by decide) (hd:(x==("__debug__":Str))=false:=by decide):wpAny (model X.prog X.w) X.A (eval (.Name x pos) X.env) Q E s:=by
 obtain⟨mb,h1,h2⟩:=I.mod.blt;exact Calls.Name_function_global I.ok.kind hg (Calls.loadGlobal_builtin (by rw[I.ok.glob];exact I.mod.glob.keeps I.bk) hm (by rw[I.ok.blt];exact h1.keeps I.bk) ((h2 x hn).trans hv) h) hd
theorem wN {x:Str}{v:V}{u:Value}{pos:Pos}(hg:Gl X x)(hm:X.mg x=some u)(r:bI v u)(hd:(x==("__debug__":Str))=false:=by decide):PE X (.Name x pos) (tC v):=λ_ _ _ H _ I h=>nM I hg hm ⟨v,H,I,r,h⟩ hd
variable {a b:Expr}{ta tb:TE}{pos:Pos}
def PC (X:Cx)(op:CmpOp)(a b:Expr)(t:TE):Prop:=∀(pins:List (Addr×Obj)) (s:Shared) (σ:St) (H:Hp) (Q:VK),aH X pins σ H s->t σ H Q->
  wpAny (model X.prog X.w) X.A (eval a X.env) (λv s₁=>wpAny (model X.prog X.w) X.A (eval b X.env) (λu s₂=>wpAny (model X.prog X.w) X.A (compareOp op v u) (EP X pins σ Q) X.xe s₂) X.xe s₁) X.xe s
def tB (t:TE):TT:=λσ H Q=>t σ H λx H1=>∃c,x = .bl c/\Q c H1
theorem D6 {op:CmpOp}{t:TE}(h:PC X op a b t)(h1:behindInMarks op b=false:=by first|exact nobehind _ (by decide) (by decide)|rfl):PT X (.Compare a [op] [b] pos) (tB t):=by intro pins s σ H Q I hw;refine wpAny_isTrue_Compare1 (cx (h pins s σ H _ I hw) λv s1 h1=>cx h1 λu s2 h2=>cx h2 λc s3 ⟨x,H1,I1,r1,q1⟩=>?_) h1;obtain⟨d,rfl,q⟩:=q1;cases r1;exact wpAny_truthy_bool ⟨H1,I1,q⟩
theorem d4 {e:Expr}{t:TE}(h:PE X e t)(he:∀whole,isTrue e X.env whole=(do let v <- whole;standAt e.pos;holding [v] (truthy v)):=by intro _;rfl):PT X e (tB t):=by intro pins s σ H Q I hw;refine isTrue_plain (cx (h pins s σ H _ I hw) λv s1 ⟨x,H1,I1,r1,q1⟩=>?_) (he _);obtain⟨d,rfl,q⟩:=q1;cases r1;exact wpAny_truthy_bool ⟨H1,I1,q⟩
variable {tA tB':TT}{rest:List Expr}
def D7 (t u:TT):TT:=λσ H Q=>t σ H λc H1=>if c=true then u σ H1 Q else Q false H1
def Gf (t u:TT):TT:=λσ H Q=>t σ H λc H1=>if c=true then Q true H1 else u σ H1 Q
def E8 (t:TT):TT:=λσ H Q=>t σ H λc H1=>Q (!c) H1
theorem dQ (ha:PT X a tA):PW X (.BoolOp .And [a] pos) tA:=by
 intro wh pins s σ H Q I h;refine isTrue_and (cx (ha pins s σ H Q I h) λc s1 e=>?_);cases c with
 |true=>exact isTrue_and_nil e
 |false=>exact e
theorem rL (ha:PT X a tA):PW X (.BoolOp .Or [a] pos) tA:=by
 intro wh pins s σ H Q I h;refine isTrue_or (cx (ha pins s σ H Q I h) λc s1 e=>?_);cases c with
 |false=>exact isTrue_or_nil e
 |true=>exact e
theorem eC (ha:PT X a tA)(hb:PW X (.BoolOp .And (b::rest) pos) tB'):PW X (.BoolOp .And (a::b::rest) pos) (D7 tA tB'):=by
 intro wh pins s σ H Q I h;refine isTrue_and (cx (ha pins s σ H _ I h) λc s1 ⟨H1,I1,q1⟩=>?_);cases c with
 |true=>exact hb wh pins s1 σ H1 Q I1 q1
 |false=>exact⟨H1,I1,q1⟩
theorem tN (ha:PT X a tA)(hb:PW X (.BoolOp .Or (b::rest) pos) tB'):PW X (.BoolOp .Or (a::b::rest) pos) (Gf tA tB'):=by
 intro wh pins s σ H Q I h;refine isTrue_or (cx (ha pins s σ H _ I h) λc s1 ⟨H1,I1,q1⟩=>?_);cases c with
 |true=>exact⟨H1,I1,q1⟩
 |false=>exact hb wh pins s1 σ H1 Q I1 q1
theorem dF (ha:PT X a tA):PT X (.UnaryOp .Not a pos) (E8 tA):=by intro pins s σ H Q I h;exact isTrue_not (ha pins s σ H (λc H1=>Q (!c) H1) I h)
def Dj (ta tb:TE):TE:=λσ H Q=>ta σ H λx H1=>∃c,x = .bl c/\if c=true then tb σ H1 Q else Q (.bl false) H1
theorem vA {op}{t:TE}(h:PE X a t):PE X (.BoolOp op [a] pos) t:=λpins s σ H Q I hw=>BoolOp_one (h pins s σ H Q I hw)
theorem vB (ha:PE X a ta)(hb:PE X (.BoolOp .And (b::rest) pos) tb):PE X (.BoolOp .And (a::b::rest) pos) (Dj ta tb):=by
 intro pins s σ H Q I h;refine BoolOp_and (cx (ha pins s σ H _ I h) λv s1 ⟨x,H1,I1,r1,q1⟩=>?_);obtain⟨c,rfl,q1⟩:=q1;cases r1;refine wpAny_truthy_bool ?_;cases c with
 |true=>exact hb pins s1 σ H1 Q I1 q1
 |false=>exact⟨.bl false,H1,I1,rfl,q1⟩
def GM (t:TT)(ta tb:TE):TE:=λσ H Q=>t σ H λc H1=>if c=true then ta σ H1 Q else tb σ H1 Q
theorem oF {c:Expr}(hc:PT X c tA)(ha:PE X a ta)(hb:PE X b tb):PE X (.IfExp c a b pos) (GM tA ta tb):=by
 intro pins s σ H Q I h;refine wpAny_IfExp (cx (hc pins s σ H _ I h) λd s1 ⟨H1,I1,q1⟩=>?_);cases d with
 |true=>exact ha pins s1 σ H1 Q I1 q1
 |false=>exact hb pins s1 σ H1 Q I1 q1
end
def aR (K:PySem.W.Frag)(H:Hp)(a:Addr)(xs:List V):Prop:=Rd H a (.lst xs)\/
  ∃(o:Obj) (its:Array Value) (n:Nat),K.lookup a=some o/\o.cls = .type "list"/\o.dict=none/\o.data = .seq its n/\its.size<=sizeLine/\bn xs its.toList
def eB (K:PySem.W.Frag)(H:Hp)(a:Addr)(xs:List V):Prop:=Rd H a (.tup xs)\/
  ∃(o:Obj) (its:Array Value) (n:Nat),K.lookup a=some o/\o.cls = .type "tuple"/\o.data = .seq its n/\its.size<=sizeLine/\bn xs its.toList
def Gg:Value->Option V
 |.none=>some .non
 |.bool b=>some (.bl b)
 |.int i _=>some (.int i)
 |.str x _=>some (.str x)
 |.bytes b _=>some (.byt b)
 |.float b _=>some (.flt b)
 |.ref a=>some (.ref a)
 |.type n=>some (.ty n)
 |_=>none
theorem bI.abs {x:V}{u:Value}(r:bI x u):Gg u=some x:=by
 cases x with
 |non=>cases r;rfl
 |bl _=>cases r;rfl
 |int _=>obtain⟨t,rfl⟩:=r;rfl
 |str _=>obtain⟨t,rfl⟩:=r;rfl
 |byt _=>obtain⟨t,rfl⟩:=r;rfl
 |flt _=>obtain⟨t,rfl⟩:=r;rfl
 |ref _=>cases r;rfl
 |ty _=>cases r;rfl
theorem bI.inj {x y:V}{u:Value}(r:bI x u)(q:bI y u):x=y:=Option.some.inj (r.abs.symm.trans q.abs)
theorem bn.inj:∀{xs ys:List V} {us:List Value},bn xs us->bn ys us->xs=ys
 |_,_,_,.nil,.nil=>rfl
 |_,_,_,.cons r t,.cons r' t'=>by rw[r.inj r',bn.inj t t']
section
variable {X:Cx}{pins:List (Addr×Obj)}{σ:St}{H:Hp}{s:Shared}{a:Addr}{xs ys:List V}
theorem aR.of {K:PySem.W.Frag}(h:H a=some (.lst xs)):aR K H a xs:=.inl (.inl h)
theorem eB.of {K:PySem.W.Frag}(h:H a=some (.tup xs)):eB K H a xs:=.inl (.inl h)
theorem aH.list (I:aH X pins σ H s)(h:aR X.K H a xs):∃its:List Value,bn xs its/\PlainL s.heap a its.toArray/\xs.length<=sizeLine:=by
 rcases h with h|⟨o,its,n,hk,hc,hd,hs,hz,r⟩
 .obtain⟨z,its,n,r,e⟩:=h.ok I.hok;exact⟨its,r,⟨_,n,e,rfl,rfl,rfl⟩,z⟩
 .refine⟨its.toList,r,⟨o,n,I.kIn a o hk,hc,hd,by simpa using hs⟩,?_⟩;have e:=r.length;simp only[length_toList]at e;omega
theorem aH.tuple (I:aH X pins σ H s)(h:eB X.K H a xs):∃its:List Value,bn xs its/\IsTup s.heap a its.toArray/\xs.length<=sizeLine:=by
 rcases h with h|⟨o,its,n,hk,hc,hs,hz,r⟩
 .obtain⟨z,its,r,p⟩:=h.ok I.hok;exact⟨its,r,p,z⟩
 .refine⟨its.toList,r,⟨o,I.kIn a o hk,hc,n,by simpa using hs⟩,?_⟩;have e:=r.length;simp only[length_toList]at e;omega
theorem aH.list_inj (I:aH X pins σ H s)(h:aR X.K H a xs)(h':aR X.K H a ys):xs=ys:=by
 obtain⟨its,r,⟨o,n,e,_,_,d⟩,_⟩:=I.list h;obtain⟨its',r',⟨o',n',e',_,_,d'⟩,_⟩:=I.list h';rw[e]at e';cases e';rw[d]at d';injection d' with d1 _;have:its=its':=by simpa using congrArg Array.toList d1
 subst this;exact r.inj r'
theorem aH.tuple_inj (I:aH X pins σ H s)(h:eB X.K H a xs)(h':eB X.K H a ys):xs=ys:=by
 obtain⟨its,r,⟨o,e,_,n,d⟩,_⟩:=I.tuple h;obtain⟨its',r',⟨o',e',_,n',d'⟩,_⟩:=I.tuple h';rw[e]at e';cases e';rw[d]at d';injection d' with d1 _;have:its=its':=by simpa using congrArg Array.toList d1
 subst this;exact r.inj r'
end
abbrev Cx.wish (X:Cx)(E:Value->Shared->Prop):Cx:={ X with xe:=E }
abbrev Cx.nox (X:Cx):Cx:=X.wish λ_ _=>False
theorem Cx.Ok.wish {X:Cx}(ok:X.Ok)(E:Value->Shared->Prop):(X.wish E).Ok:=⟨ok.mod,ok.kind,ok.glob,ok.blt,ok.above,ok.inj,ok.has,ok.cab,ok.hd,ok.frames,ok.stk,ok.exf,ok.bs,ok.bsz,ok.noex,ok.exfs,ok.funs,ok.frf⟩
theorem Cx.Ok.unwish {X:Cx}{E:Value->Shared->Prop}(ok:(X.wish E).Ok):X.Ok:=⟨ok.mod,ok.kind,ok.glob,ok.blt,ok.above,ok.inj,ok.has,ok.cab,ok.hd,ok.frames,ok.stk,ok.exf,ok.bs,ok.bsz,ok.noex,ok.exfs,ok.funs,ok.frf⟩
section
variable {X:Cx}{pins:List (Addr×Obj)}{σ:St}{H:Hp}{s:Shared}{E:Value->Shared->Prop}
theorem aH.wish (I:aH X pins σ H s)(E:Value->Shared->Prop):aH (X.wish E) pins σ H s:=⟨I.ok.wish E,I.os,I.bare,I.base,I.loc,I.cell,I.free,I.freeC,I.pin,I.hok,I.len⟩
theorem aH.unwish (I:aH (X.wish E) pins σ H s):aH X pins σ H s:=⟨I.ok.unwish,I.os,I.bare,I.base,I.loc,I.cell,I.free,I.freeC,I.pin,I.hok,I.len⟩
theorem SP.unwish {D:jj}{f:Flow}{s':Shared}(h:SP (X.wish E) pins D f s'):SP X pins D f s':=by
 cases f with
 |next=>obtain⟨σ',H',I,q⟩:=h;exact⟨σ',H',I.unwish,q⟩
 |brk=>obtain⟨σ',H',I,q⟩:=h;exact⟨σ',H',I.unwish,q⟩
 |cont=>obtain⟨σ',H',I,q⟩:=h;exact⟨σ',H',I.unwish,q⟩
 |ret u=>obtain⟨v,σ',H',I,r,q⟩:=h;exact⟨v,σ',H',I.unwish,r,q⟩
theorem wM.nox {st:List Stmt}{t:TS}(h:wM X.nox st t):wM X st t:=λpins s σ H D I hw=>
 wpAny_mono (h pins s σ H D (I.wish _) hw) (λ_ _ q=>q.unwish) λ_ _ z=>False.elim z
end
section
variable {X:Cx}{st:Stmt}{rest:List Stmt}{t u:TS}{e:Expr}{te:TE}{pos:Pos}
def wO:TS:=λD σ H=>D.nx σ H
def zC (t u:TS):TS:=λD σ H=>t { D with nx:=u D } σ H
theorem aE:wM X [] wO:=λ_ _ σ H _ I h=>wpAny_execs_nil ⟨σ,H,I,h⟩
theorem ae (h1:PS X st t)(h2:wM X rest u):wM X (st::rest) (zC t u):=by
 intro pins s σ H D I h;refine wpAny_execs_cons (cx (h1 pins s σ H { D with nx:=u D } I h) λf s1 q=>?_);cases f with
 |next=>
  obtain⟨σ',H',I',q⟩:=q;exact h2 pins s1 σ' H' D I' q
 |ret v=>exact q
 |brk=>exact q
 |cont=>exact q
theorem ai (h1:PS X st t):wM X [st] t:=by
 intro pins s σ H D I h;refine wpAny_execs_cons (cx (h1 pins s σ H D I h) λf s1 q=>?_);cases f with
 |next=>exact wpAny_execs_nil q
 |ret v=>exact q
 |brk=>exact q
 |cont=>exact q
theorem aH.quiet {pins:List (Addr×Obj)}{σ:St}{H:Hp}{s:Shared}(I:aH X pins σ H s):interactive X.env=false:=by simp[interactive,I.ok.kind]
def zD (te:TE):TS:=λD σ H=>te σ H λ_ H1=>D.nx σ H1
theorem aV (he:PE X e te)(hs:swapsWith e none pos.line X.env=pure false:=by rfl):PS X (.Expr e pos) (zD te):=by intro pins s σ H D I h;exact wpAny_Expr_any (cx (he pins s σ H _ I h) λv s1 ⟨x,H1,I1,r1,q1⟩=>⟨σ,H1,I1,q1⟩) I.quiet hs
def x8 (te:TE):TS:=λD σ H=>te σ H D.rt
theorem ao (he:PE X e te):PS X (.Return (some e) pos) (x8 te):=by intro pins s σ H D I h;exact wpAny_Return_some (cx (he pins s σ H _ I h) λv s1 ⟨x,H1,I1,r1,q1⟩=>⟨x,σ,H1,I1,r1,q1⟩)
def BU (c:TT)(t u:TS):TS:=λD σ H=>c σ H λb H1=>if b=true then t D σ H1 else u D σ H1
theorem bg {c:Expr}{a b:List Stmt}{tc:TT}(hc:PT X c tc)(ha:wM X a t)(hb:wM X b u):PS X (.If c a b pos) (BU tc t u):=by
 intro pins s σ H D I h;refine wpAny_If (cx (hc pins s σ H _ I h) λd s1 ⟨H1,I1,q1⟩=>?_);cases d with
 |true=>exact ha pins s1 σ H1 D I1 q1
 |false=>exact hb pins s1 σ H1 D I1 q1
end
abbrev TG:=V->St->Hp->(St->Hp->Prop)->Prop
abbrev D8:=List V->St->Hp->(St->Hp->Prop)->Prop
def PG (X:Cx)(target:Expr)(t:TG):Prop:=∀(pins:List (Addr×Obj)) (s:Shared) (σ:St) (H:Hp) (v:V) (u:Value) (Q:St->Hp->Prop),aH X pins σ H s->bI v u->t v σ H Q->
  wpAny (model X.prog X.w) X.A (assign target X.env u) (λ_ s'=>∃σ' H',aH X pins σ' H' s'/\Q σ' H') X.xe s
def F8 (X:Cx)(ts:List Expr)(t:D8):Prop:=∀(pins:List (Addr×Obj)) (s:Shared) (σ:St) (H:Hp) (vs:List V) (us:List Value) (Q:St->Hp->Prop),aH X pins σ H s->bn vs us->t vs σ H Q->
  wpAny (model X.prog X.w) X.A (assignInOrder ((assignEach ts X.env).map (·.2)) us) (λ_ s'=>∃σ' H',aH X pins σ' H' s'/\Q σ' H') X.xe s
abbrev BV:=V->V->V->Hp->(Hp->Prop)->Prop
def E9 (X:Cx)(t:BV):Prop:=∀(pins:List (Addr×Obj)) (s:Shared) (σ:St) (H:Hp) (o i v:V) (ov iv u:Value) (Q:Hp->Prop),aH X pins σ H s->bI o ov->bI i iv->bI v u->t o i v H Q->
  wpAny (model X.prog X.w) X.A (setItem ov iv u) (λ_ s'=>∃H',aH X pins σ H' s'/\Q H') X.xe s
section
variable {X:Cx}{pos:Pos}
def km (i:Nat):TG:=λv σ H Q=>Q (σ.set i (some v)) H
theorem aQ {i:Nat}{x:Str}(hN:X.N.Nodup)(hi:X.N[i]?=some x)(hx:F7 X.env.scope x)(hf:X.fn x=true\/X.env.scope.names.lookup x=some .local:=by first|exact .inl rfl|exact .inr rfl|assumption):PG X (.Name x pos) (km i):=by intro pins s σ H v u Q I r h;exact wpAny_assign_Name (tM I hN hi hx r (λs' I'=>⟨_,H,I',h⟩) hf)
def Gh:D8:=λvs σ H Q=>vs=[]/\Q σ H
def Fa (t:TG)(u:D8):D8:=λvs σ H Q=>∃v r,vs=v::r/\t v σ H λσ' H'=>u r σ' H' Q
theorem wP:F8 X [] Gh:=by intro pins s σ H vs us Q I r h;obtain⟨e,h⟩:=h;subst e;cases r;exact assignInOrder_nil ⟨σ,H,I,h⟩
theorem kZ {e:Expr}{es:List Expr}{t:TG}{u:D8}(h1:PG X e t)(h2:F8 X es u)
  (hs:(assignEach (e::es) X.env).map (·.2)=assign e X.env::(assignEach es X.env).map (·.2):=by rfl):F8 X (e::es) (Fa t u):=by
 intro pins s σ H vs us Q I r h;obtain⟨v,vr,e1,h⟩:=h;subst e1;cases r with
 |cons r rr=>
  rw[hs];refine assignInOrder_cons (cx (h1 pins s σ H _ _ _ I r h) λ_ s1 ⟨σ1,H1,I1,q1⟩=>?_);exact h2 pins s1 σ1 H1 _ _ Q I1 rr q1
def Gi (K:PySem.W.Frag)(n:Nat)(t:D8):TG:=λv σ H Q=>∃a xs,v = .ref a/\eB K H a xs/\xs.length=n/\t xs σ H Q
theorem zE {es:List Expr}{k:Nat}{t:D8}{n:Nat}(hc:X.calm=true)(h:F8 X es t)
  (hn:(assignEach es X.env).length=n:=by rfl) (hst:(assignEach es X.env).findIdx? (·.1)=none:=by rfl):PG X (.Tuple es k pos) (Gi X.K n t):=by
 intro pins s σ H v u Q I r hw;obtain⟨a,xs,e1,hq,hl,hw⟩:=hw;subst e1;cases r;obtain⟨its,rv,ht,hz⟩:=I.tuple hq;refine assign_Tuple_tuple (I.ok.hd hc) ht (by simp[hn,<- hl,rv.length]) hst λh' hx=>?_;have I1:aH X pins σ H { s with heap:=h' }:=I.kept (t':=s.toks) λb o e=>hx b o (ne_of_lt (lt_size e)) e;exact h pins _ σ H xs _ Q I1 (by simpa using rv) hw
def Fb (to ti:TE)(t:BV):TG:=λv σ H Q=>to σ H λo H1=>ti σ H1 λi H2=>t o i v H2 λH3=>Q σ H3
theorem D9 {o i:Expr}{to ti:TE}{t:BV}(ho:PE X o to)(hi:PE X i ti)(hs:E9 X t)
  (ha:∀v,assign (.Subscript o i pos) X.env v=(do
   let ov <- holding [v] (eval o X.env)
   let iv <- holding [v,ov] (eval i X.env)
   standAt pos
   holding [v,ov,iv] (setItem ov iv v)
   release [v,ov,iv] []):=by intro _;rfl):PG X (.Subscript o i pos) (Fb to ti t):=by
 intro pins s σ H v u Q I r h;rw[ha];refine wpAny_bind (wpAny_holding (cx (ho pins s σ H _ I h) λov s1 ⟨x,H1,I1,r1,q1⟩=>?_));refine wpAny_bind (wpAny_holding (cx (hi pins s1 σ H1 _ I1 q1) λiv s2 ⟨y,H2,I2,r2,q2⟩=>?_));refine wpAny_bind (wpAny_standAt (wpAny_bind (wpAny_holding (cx (hs pins s2 σ H2 x y v ov iv u _ I2 r1 r2 r q2) λ_ s3 ⟨H3,I3,q3⟩=>?_))));exact wpAny_release ⟨σ,H3,I3,q3⟩
def vC (te:TE)(g:TG):TS:=λD σ H=>te σ H λx H1=>g x σ H1 D.nx
theorem Ea {tg e:Expr}{te:TE}{g:TG}(he:PE X e te)(hg:PG X tg g)(hs:swapsWithSole [tg] e pos.line X.env=pure false:=by rfl)(hw:swappedStores [tg] e X.env=pure none:=by rfl)
  (h1:(assignEach [tg] X.env).map (·.2)=[assign tg X.env]:=by rfl):PS X (.Assign [tg] e pos) (vC te g):=by
 intro pins s σ H D I h;refine wpAny_Assign_stores (cx (he pins s σ H _ I h) λv s1 ⟨x,H1,I1,r1,q1⟩=>?_) hs hw;rw[h1];exact cx (hg pins s1 σ H1 x v _ I1 r1 q1) λ_ s2 q=>q
theorem aq {i:Nat}{x:Str}{e:Expr}{te:TE}{pos':Pos}(hN:X.N.Nodup)(hi:X.N[i]?=some x)(hx:F7 X.env.scope x)(he:PE X e te)(hs:swapsWith e (some (.Name x pos')) pos.line X.env=pure false:=by rfl)(hf:X.fn x=true\/X.env.scope.names.lookup x=some .local:=by first|exact .inl rfl|exact .inr rfl|assumption) :
  PS X (.Assign [.Name x pos'] e pos) (vC te (km i)):=by
 intro pins s σ H D I h;refine wpAny_Assign_Name (cx (he pins s σ H _ I h) λv s1 ⟨y,H1,I1,r1,q1⟩=>?_) hs;exact tM I1 hN hi hx r1 (λs2 I2=>⟨_,H1,I2,q1⟩) hf
end
section
variable {X:Cx}{pos:Pos}
def zF (c:TT)(tb:TS):TS:=λD σ H=>∃W:Nat->St->Hp->Prop,(∃m,W m σ H)/\∀m σ H,W m σ H->
 c σ H λb H1=>if b=true then∃N:St->Hp->Prop,(∀σ' H',N σ' H'->∃m',m'<m/\W m' σ' H')/\tb { D with nx:=N,ct:=N,bk:=D.nx } σ H1 else D.nx σ H1
theorem k6 {c:Expr}{body:List Stmt}{tc:TT}{tb:TS}(hp:PassesOwn (model X.prog X.w) X.A X.env X.xe)(hc:PT X c tc)(hb:wM X body tb):PS X (.While c body [] pos) (zF tc tb):=by
 intro pins s σ H D I h;obtain⟨W,⟨m0,w0⟩,turn⟩:=h;refine wpAny_While (codeAny_whileLoop (λn s'=>∃σ' H',aH X pins σ' H' s'/\W n σ' H') ?_ m0 ⟨σ,H,I,w0⟩);rintro n s1 ⟨σ1,H1,I1,w1⟩;refine wpAny_passesOwn hp (cx (hc pins s1 σ1 H1 _ I1 (turn n σ1 H1 w1)) λb s2 ⟨H2,I2,q2⟩=>?_);cases b with
 |true=>
  obtain⟨N,hN,q2⟩:=q2;rw[if_pos rfl];refine wpAny_passesOwn hp (cx (hb pins s2 σ1 H2 _ I2 q2) λf s3 q3=>?_);cases f with
  |next=>
   obtain⟨σ3,H3,I3,n3⟩:=q3;obtain⟨m',hm,w3⟩:=hN σ3 H3 n3;exact⟨m',hm,σ3,H3,I3,w3⟩
  |cont=>
   obtain⟨σ3,H3,I3,n3⟩:=q3;obtain⟨m',hm,w3⟩:=hN σ3 H3 n3;exact⟨m',hm,σ3,H3,I3,w3⟩
  |brk=>exact q3
  |ret v=>exact q3
 |false=>
  rw[if_neg Bool.false_ne_true];exact wpAny_execs_nil ⟨σ1,H2,I2,q2⟩
end
structure It where
 go:Nat->Hp->Prop
 yld:Nat->Hp->V->Hp->Prop
 stop:Nat->Hp->Prop
def gn (X:Cx)(pins:List (Addr×Obj))(H:Hp)(b:Addr):Prop:=H b=none/\b≠X.env.locals/\b∉X.fs/\(b∈X.ex\/X.s_0.heap.objs.size<=b)/\(∀x c,X.env.cells.lookup x=some c->c≠b)/\∀p∈X.pn++pins,p.1≠b
theorem aH.fpOk {X:Cx}{pins:List (Addr×Obj)}{σ:St}{H H':Hp}{s:Shared}{b:Addr}(I:aH X pins σ H s)(hb:s.heap.objs.size<=b)(hn:H' b=none):gn X pins H' b:=by
 refine⟨hn,ne_of_gt (lt_of_lt_of_le I.lt hb),I.nofs hb,.inr (le_trans I.sz hb),λx c e z=>?_,λp hp z=>?_⟩
 .obtain⟨v,q⟩:=I.cell x c e;exact absurd (lt_of_lt_of_le q.lt (by rw[z];exact hb)) (lt_irrefl _)
 .exact absurd (lt_of_lt_of_le (lt_size (I.pin p hp).1) (by rw[z];exact hb)) (lt_irrefl _)
structure nv (P:Program)(w:World)(K:PySem.W.Frag)(tg:Expr)(J:It)(fp:List Addr)(it:Addr)(tn:Nat->Heap->Prop):Prop where
 mem:it∈fp
 obj:∀i h,tn i h->∀b∈fp,∃o,h.get? b=some o/\∀v,o.data≠.cell v
 keep:∀i h h',tn i h->(∀b∈fp,∀o,h.get? b=some o->h'.get? b=some o)->tn i h'
 item:∀(X:Cx),X.prog=P->X.w=w->X.K=K->X.calm=true->∀(i:Nat) (pins:List (Addr×Obj)) (s:Shared) (σ:St) (H:Hp) (E:Value->Shared->Prop),aH X pins σ H s->(∀b∈fp,gn X pins H b)->tn i s.heap->J.go i H->
  wpAny (model P w) X.A (pyNext (.ref it)) (λr s1=>∃u,r=some u/\ wpAny (model P w) X.A (letOwnedTupleGo tg (.ref it) u) (λ_ s2=>∃x H',aH X pins σ H' s2/\bI x u/\J.yld i H x H'/\tn (i+1) s2.heap/\∀b∈fp,H' b=none) E s1) E s
 done:∀(X:Cx),X.prog=P->X.w=w->X.K=K->X.calm=true->∀(i:Nat) (pins:List (Addr×Obj)) (s:Shared) (σ:St) (H:Hp) (E:Value->Shared->Prop),aH X pins σ H s->(∀b∈fp,gn X pins H b)->tn i s.heap->J.stop i H->
  wpAny (model P w) X.A (pyNext (.ref it)) (λr s1=>r=none/\aH X pins σ H s1) E s
 self:∀(A:Around) (i:Nat) (s:Shared) (Q:Value->Shared->Prop) (E:Value->Shared->Prop),tn i s.heap->Q (.ref it) s->wpAny (model P w) A (pyIter (.ref it)) Q E s
abbrev TI:=St->Hp->(It->Hp->Prop)->Prop
def Gj (X:Cx)(pins:List (Addr×Obj))(σ:St)(tg:Expr)(R:It->Hp->Prop)(itv:Value)(s2:Shared):Prop:=∃(it:Addr) (fp:List Addr) (tn:Nat->Heap->Prop) (J:It) (H':Hp),itv = .ref it/\aH X pins σ H' s2/\nv X.prog X.w X.K tg J fp it tn/\tn 0 s2.heap/\(∀b∈fp,gn X pins H' b)/\R J H'
def PI (X:Cx)(tg iter:Expr)(wi:TI):Prop:=∀(pins:List (Addr×Obj)) (s:Shared) (σ:St) (H:Hp) (R:It->Hp->Prop),aH X pins σ H s->wi σ H R->
  wpAny (model X.prog X.w) X.A (eval iter X.env) (λv s1=>wpAny (model X.prog X.w) X.A (pyIter v) (Gj X pins σ tg R) X.xe s1) X.xe s
theorem mN {M:Model}{A:Around}{E:Value->Shared->Prop}{s:Shared}{tg:Expr}{it:Addr}{u:Value}{o:Obj}{n:String}{vs:Array Value}{Q:Unit->Shared->Prop}(ho:s.heap.get? it=some o)(hc:o.cls = .type n)(hd:o.data = .fields vs)
  (hn:["enumerate","zip","dict_itemiterator","dict_reverseitemiterator","odict_iterator","itertools.zip_longest","itertools.pairwise"].contains n=false) (hQ:Q () s):wpAny M A (letOwnedTupleGo tg (.ref it) u) Q E s:=by
 unfold letOwnedTupleGo;cases tg<;>first
  |exact wpAny_pure hQ
  |(cases u<;>first
    |exact wpAny_pure hQ
    |(refine wpAny_bind (wpAny_load ho ?_)
      rw[hc,hd];show wpAny M A (if (["enumerate","zip","dict_itemiterator","dict_reverseitemiterator","odict_iterator","itertools.zip_longest","itertools.pairwise"].contains n&&vs[0]?==some (rawInt _))=true then _ else _) Q E s;rw[if_neg (by intro h;rw[hn,Bool.false_and]at h;cases h)];exact wpAny_pure hQ))
def vo (K:PySem.W.Frag)(a:Addr):It:=⟨λi H=>∃xs x,aR K H a xs/\xs[i]?=some x,λi H x H'=>H'=H/\∀xs,aR K H a xs->xs[i]?=some x,λi H=>∃xs,aR K H a xs/\xs.length<=i⟩
def E2 (K:PySem.W.Frag)(a:Addr):It:=⟨λi H=>∃xs x,eB K H a xs/\xs[i]?=some x,λi H x H'=>H'=H/\∀xs,eB K H a xs->xs[i]?=some x,λi H=>∃xs,eB K H a xs/\xs.length<=i⟩
def x9 (lo:Int)(n:Nat):It:=⟨λi _=>i<n,λi H x H'=>H'=H/\x = .int (lo+i),λi _=>n<=i⟩
theorem ya {P:Program}{w:World}{K:PySem.W.Frag}{tg:Expr}(a it:Addr):nv P w K tg (vo K a) [it] it (λi h=>h.IsListIter it a i) where
 mem:=by simp
 obj:=λi h st b hb=>by
  have e:b=it:=by simpa using hb
  subst e;obtain⟨o,e,c,d⟩:=st;exact⟨o,e,λv z=>by rw[d]at z;cases z⟩
 keep:=λi h h' st k=>st.at λo e=>k it (by simp) o e
 item:=by intro X hP hw hK hc i pins s σ H E I hf st hg;subst hP hw hK;obtain⟨xs,x,hq,hx⟩:=hg;obtain⟨its,rv,p,hz⟩:=I.list hq;obtain⟨u,hu,ru⟩:=rv.get hx;obtain⟨f0,f1,f2,f3,f4,f5⟩:=hf it (by simp);refine wpAny_pyNext_list_item st p.isList (x:=u) (by simpa using hu) λh' st' sb=>?_;have I1:aH X pins σ H { s with heap:=h' }:=I.turned (t':=s.toks) (λb o hb e=>(sb.2 b hb).trans e) f0 f1 f3 f4 f5;obtain⟨o,e,c,d⟩:=id st';exact⟨u,rfl,mN (s:={ s with heap:=h' }) e c d (by decide) ⟨x,H,I1,ru,⟨rfl,λys hy=>by rw[I.list_inj hy hq];exact hx⟩,st',λb hb=>(hf b hb).1⟩⟩
 done:=by intro X hP hw hK hc i pins s σ H E I hf st hg;subst hP hw hK;obtain⟨xs,hq,hx⟩:=hg;obtain⟨its,rv,p,hz⟩:=I.list hq;obtain⟨f0,f1,f2,f3,f4,f5⟩:=hf it (by simp);have hl:=rv.length;exact wpAny_pyNext_list_end (I.ok.hd hc) st p.isList (by simp;omega) λh' eb=>⟨rfl,I.turned (t':=s.toks) (λb o hb e=>eb b o hb e) f0 f1 f3 f4 f5⟩
 self:=λ_ _ _ _ _ st h=>wpAny_pyIter_listiter st h
theorem vD {P:Program}{w:World}{K:PySem.W.Frag}{tg:Expr}(a it:Addr):nv P w K tg (E2 K a) [it] it (λi h=>h.IsTupleIter it a i) where
 mem:=by simp
 obj:=λi h st b hb=>by
  have e:b=it:=by simpa using hb
  subst e;obtain⟨o,e,c,d⟩:=st;exact⟨o,e,λv z=>by rw[d]at z;cases z⟩
 keep:=λi h h' st k=>st.at λo e=>k it (by simp) o e
 item:=by intro X hP hw hK hc i pins s σ H E I hf st hg;subst hP hw hK;obtain⟨xs,x,hq,hx⟩:=hg;obtain⟨its,rv,p,hz⟩:=I.tuple hq;obtain⟨u,hu,ru⟩:=rv.get hx;obtain⟨f0,f1,f2,f3,f4,f5⟩:=hf it (by simp);refine wpAny_pyNext_tuple_item st (show s.heap.IsTuple a its.toArray from p) (x:=u) (by simpa using hu) λh' st' sb=>?_;have I1:aH X pins σ H { s with heap:=h' }:=I.turned (t':=s.toks) (λb o hb e=>(sb.2 b hb).trans e) f0 f1 f3 f4 f5;obtain⟨o,e,c,d⟩:=id st';exact⟨u,rfl,mN (s:={ s with heap:=h' }) e c d (by decide) ⟨x,H,I1,ru,⟨rfl,λys hy=>by rw[I.tuple_inj hy hq];exact hx⟩,st',λb hb=>(hf b hb).1⟩⟩
 done:=by intro X hP hw hK hc i pins s σ H E I hf st hg;subst hP hw hK;obtain⟨xs,hq,hx⟩:=hg;obtain⟨its,rv,p,hz⟩:=I.tuple hq;obtain⟨f0,f1,f2,f3,f4,f5⟩:=hf it (by simp);have hl:=rv.length;exact wpAny_pyNext_tuple_end (I.ok.hd hc) st (show s.heap.IsTuple a its.toArray from p) (by simp;omega) λh' eb=>⟨rfl,I.turned (t':=s.toks) (λb o hb e=>eb b o hb e) f0 f1 f3 f4 f5⟩
 self:=λ_ _ _ _ _ st h=>wpAny_pyIter_tupleiter st h
theorem vE {P:Program}{w:World}{K:PySem.W.Frag}{tg:Expr}(it:Addr)(lo:Int)(n:Nat):nv P w K tg (x9 lo n) [it] it (λi h=>IsRangeIter h it (lo+(i:Nat)*1) ((n:Int)-(i:Nat)) 1) where
 mem:=by simp
 obj:=λi h st b hb=>by
  have e:b=it:=by simpa using hb
  subst e;exact⟨_,st,λv z=>by
   have z':Data.fields _=Data.cell v:=z;cases z'⟩
 keep:=λi h h' st k=>k it (by simp) _ st
 item:=by intro X hP hw hK hc i pins s σ H E I hf st hg;subst hP hw hK;obtain⟨f0,f1,f2,f3,f4,f5⟩:=hf it (by simp);have W:=Walks.range (prog:=X.prog) (w:=X.w) (I.ok.hd hc) it lo 1 n;refine W.item i s _ _ hg st λv h' tk hv st' kk=>?_;obtain⟨t,rfl⟩:=hv;have I1:aH X pins σ H { s with heap:=h',toks:=tk }:=I.turned (λb o hb e=>kk b o (by simpa using hb) e) f0 f1 f3 f4 f5;refine⟨_,rfl,mN (s:={ s with heap:=h',toks:=tk }) (n := "range_iterator") st' rfl rfl (by decide) ⟨.int (lo+i),H,I1,⟨t,?_⟩,⟨rfl,rfl⟩,st',λb hb=>(hf b hb).1⟩⟩;rw[Int.mul_one]
 done:=by intro X hP hw hK hc i pins s σ H E I hf st hg;subst hP hw hK;obtain⟨f0,f1,f2,f3,f4,f5⟩:=hf it (by simp);exact wpAny_pyNext_range_end (I.ok.hd hc) st (by have:n<=i:=hg;omega) λh' eb=>⟨rfl,I.turned (t':=s.toks) (λb o hb e=>eb b o hb e) f0 f1 f3 f4 f5⟩
 self:=λ_ _ _ _ _ st h=>wpAny_pyIter_rangeiter st h
section
variable {X:Cx}{tg:Expr}
def wQ (K:PySem.W.Frag)(tl:TE):TI:=λσ H R=>tl σ H λx H1=>∃a,x = .ref a/\(∃xs,aR K H1 a xs)/\R (vo K a) H1
def Fc (K:PySem.W.Frag)(tl:TE):TI:=λσ H R=>tl σ H λx H1=>∃a,x = .ref a/\(∃xs,eB K H1 a xs)/\R (E2 K a) H1
theorem bx {l:Expr}{tl:TE}(hl:PE X l tl):PI X tg l (wQ X.K tl):=by
 intro pins s σ H R I h;refine cx (hl pins s σ H _ I h) λv s1 ⟨x,H1,I1,r1,q1⟩=>?_;obtain⟨a,e,⟨xs,hq⟩,q⟩:=q1;subst e;cases r1;obtain⟨its,rv,p,hz⟩:=I1.list hq;refine wpAny_pyIter_list p.isList ?_;refine⟨s1.heap.objs.size,[s1.heap.objs.size],_,_,H1,rfl,I1.kept (t':=s1.toks) λb o e=>get?_push_of_some _ e,ya a _,⟨_,get?_push_size _ rfl,rfl,rfl⟩,λb hb=>?_,q⟩;have e:b=s1.heap.objs.size:=by simpa using hb
 subst e;exact I1.fpOk (Nat.le_refl _) (I1.hok.fresh (Nat.le_refl _))
theorem Eb {l:Expr}{tl:TE}(hl:PE X l tl):PI X tg l (Fc X.K tl):=by
 intro pins s σ H R I h;refine cx (hl pins s σ H _ I h) λv s1 ⟨x,H1,I1,r1,q1⟩=>?_;obtain⟨a,e,⟨xs,hq⟩,q⟩:=q1;subst e;cases r1;obtain⟨its,rv,p,hz⟩:=I1.tuple hq;refine wpAny_pyIter_tuple (show s1.heap.IsTuple a its.toArray from p) ?_;refine⟨s1.heap.objs.size,[s1.heap.objs.size],_,_,H1,rfl,I1.kept (t':=s1.toks) λb o e=>get?_push_of_some _ e,vD a _,⟨_,get?_push_size _ rfl,rfl,rfl⟩,λb hb=>?_,q⟩;have e:b=s1.heap.objs.size:=by simpa using hb
 subst e;exact I1.fpOk (Nat.le_refl _) (I1.hok.fresh (Nat.le_refl _))
theorem tP {pins:List (Addr×Obj)}{σ:St}{H:Hp}{s:Shared}{R:It->Hp->Prop}{E:Value->Shared->Prop}{lo hi:Int}{t u v:Tok}{tk:Nat}(I:aH X pins σ H s)(h1 : -(2^62)<=lo)(h2:lo<2^62)(h3 : -(2^62)<=hi)(h4:hi<2^62)
  (q:R (x9 lo (hi-lo).toNat) H):wpAny (model X.prog X.w) X.A (pyIter (.ref s.heap.objs.size)) (Gj X pins σ tg R) E { s with heap:=s.heap.push { cls:=.type "range",data:=.fields #[.int lo t,.int hi u,.int 1 v] },toks:=tk }:=by
 refine wpAny_pyIter_range (IsRange.new ..) (small_one h1 h2 h3 h4) ?_;have I1:aH X pins σ H { s with heap:=s.heap.push { cls:=.type "range",data:=.fields #[.int lo t,.int hi u,.int 1 v] },toks:=tk }:=I.kept λb o e=>get?_push_of_some _ e;refine⟨(s.heap.push { cls:=.type "range",data:=.fields #[.int lo t,.int hi u,.int 1 v] }).objs.size,[(s.heap.push { cls:=.type "range",data:=.fields #[.int lo t,.int hi u,.int 1 v] }).objs.size],_,_,H,rfl,I1.kept (t':=tk) λb o e=>get?_push_of_some _ e,vE _ lo (hi-lo).toNat,?_,λb hb=>?_,q⟩
 .have e1:lo+((0:Nat):Int)*1=lo:=by simp
  have e2:(((hi-lo).toNat:Nat):Int)-((0:Nat):Int)=Builtin.Range.rangeSize lo hi 1:=by rw[rangeSize_one];split<;>omega
  show IsRangeIter _ _ (lo+((0:Nat):Int)*1) ((((hi-lo).toNat:Nat):Int)-((0:Nat):Int)) 1;rw[e1,e2];exact get?_push_size _ rfl
 .have e:b=(s.heap.push { cls:=.type "range",data:=.fields #[.int lo t,.int hi u,.int 1 v] }).objs.size:=by simpa using hb
  subst e;exact I1.fpOk (Nat.le_refl _) (I1.hok.fresh (Nat.le_refl _))
def Dk (ta:TA):TI:=λσ H R=>ta σ H λvs H1=>∃j:Int,vs=[.int j]/\-(2^62)<=j/\j<2^62/\R (x9 0 j.toNat) H1
def Dl (ta:TA):TI:=λσ H R=>ta σ H λvs H1=>∃i j:Int,vs=[.int i,.int j]/\(-(2^62)<=i/\i<2^62/\-(2^62)<=j/\j<2^62)/\R (x9 i (j-i).toNat) H1
theorem lY {a:Expr}{ta:TA}{p pos:Pos}(hg:Gl X "range")(hm:X.mg "range"=none)(ha:PA X [a] ta)(hs:starEach [a] X.env=[(false,eval a X.env)]:=by rfl):PI X tg (.Call (.Name "range" p) [a] [] pos) (Dk ta):=by
 intro pins s σ H R I h;refine Call_ (iK I hg hm boot_range (PyProof.Rows.callWith_type1 (cx (ha pos pins s σ H _ I h) λus s1 ⟨vs,H1,I1,r1,q1⟩=>?_) hs rfl));obtain⟨j,e,q1,q2,q⟩:=q1;subst e;cases r1 with
 |cons r rr=>
  cases rr;obtain⟨t,rfl⟩:=r;exact call_range_1 (tP I1 (by omega) (by omega) q1 q2 (by simpa using q))
theorem lZ {a b:Expr}{ta:TA}{p pos:Pos}(hg:Gl X "range")(hm:X.mg "range"=none)(ha:PA X [a,b] ta)(hs:starEach [a,b] X.env=[(false,eval a X.env),(false,eval b X.env)]:=by rfl)(hs2:starEach [b] X.env=[(false,eval b X.env)]:=by rfl) :
  PI X tg (.Call (.Name "range" p) [a,b] [] pos) (Dl ta):=by
 intro pins s σ H R I h;refine Call_ (iK I hg hm boot_range (PyProof.Rows.callWith_type1 (cx (ha pos pins s σ H _ I h) λus s1 ⟨vs,H1,I1,r1,q1⟩=>?_) (by rw[hs,hs2]) (by rw[hs2];rfl)));obtain⟨i,j,e,⟨q1,q2,q3,q4⟩,q⟩:=q1;subst e;cases r1 with
 |cons r rr=>
  cases rr with
  |cons r' rr=>
   cases rr;obtain⟨t,rfl⟩:=r;obtain⟨t',rfl⟩:=r';exact call_range_2 (tP I1 q1 q2 q3 q4 q)
def Ec (wi:TI)(g:TG)(tb:TS):TS:=λD σ H=>wi σ H λJ H1=>∃W:Nat->Nat->St->Hp->Prop,(∃m,W 0 m σ H1)/\∀i m σ H,W i m σ H->
 (J.stop i H/\D.nx σ H)\/(J.go i H/\∃N:St->Hp->Prop,(∀σ' H',N σ' H'->∃m',m'<m/\W (i+1) m' σ' H')/\∀x H',J.yld i H x H'->g x σ H' λσ2 H2=>tb { D with nx:=N,ct:=N,bk:=D.nx } σ2 H2)
def oG (fp:List Addr)(h:Heap):List (Addr×Obj):=fp.filterMap λb=>(h.get? b).map λo=>(b,o)
theorem dG {fp:List Addr}{h:Heap}{b:Addr}{o:Obj}(hb:b∈fp)(e:h.get? b=some o):(b,o)∈oG fp h:=List.mem_filterMap.mpr ⟨b,hb,by rw[e];rfl⟩
theorem yb {fp:List Addr}{h:Heap}{p:Addr×Obj}(hp:p∈oG fp h):p.1∈fp/\h.get? p.1=some p.2:=by
 obtain⟨b,hb,e⟩:=List.mem_filterMap.mp hp;cases q:h.get? b with
 |none=>rw[q]at e;cases e
 |some o=>
  rw[q]at e;have e':(b,o)=p:=Option.some.inj e;subst e';exact⟨hb,q⟩
theorem aH.pinned {pins:List (Addr×Obj)}{σ:St}{H:Hp}{s:Shared}{fp:List Addr}(I:aH X pins σ H s)(hf:∀b∈fp,gn X pins H b)(ho:∀b∈fp,∃o,s.heap.get? b=some o/\∀v,o.data≠.cell v):aH X (pins++oG fp s.heap) σ H s:=I.pins_of λp hp=>(mem_append.mp hp).elim (λz=>I.pin p (mem_append_right _ z)) λz=>by obtain⟨hb,e⟩:=yb z;obtain⟨f0,f1,f2,_⟩:=hf p.1 hb;obtain⟨o,e',d⟩:=ho p.1 hb;rw[e]at e';cases e';exact⟨e,f0,f1,f2,d⟩
theorem aH.unpinned {pins pl:List (Addr×Obj)}{σ:St}{H:Hp}{s:Shared}(I:aH X (pins++pl) σ H s):aH X pins σ H s:=I.pins_of λp hp=>I.pin p (mem_append_right _ (mem_append_left _ hp))
theorem ci {iter:Expr}{body:List Stmt}{wi:TI}{g:TG}{tb:TS}{pos:Pos}(hp:PassesOwn (model X.prog X.w) X.A X.env X.xe)(hc:X.calm=true)(hi:PI X tg iter wi)(hg:PG X tg g)(hb:wM X body tb)
  (hs:∀x,foldedSetIterable iter X.env x=pure x:=by intro _;rfl):PS X (.For tg iter body [] pos) (Ec wi g tb):=by
 intro pins s σ H D I h;refine wpAny_For (cx (hi pins s σ H _ I h) λv s1 h1=>cx h1 λitv s2 h2=>?_) hs;obtain⟨it,fp,tn,J,H2,e,I2,T,st2,f2,W,⟨m0,w0⟩,turn⟩:=h2;subst e;have stat:∀{H':Hp},(∀b∈fp,H' b=none)->∀b∈fp,gn X pins H' b:=λhn b hb=>⟨hn b hb,(f2 b hb).2⟩
 refine codeAny_forLoop_any (λn s'=>∃i σ' H',aH X pins σ' H' s'/\tn i s'.heap/\(∀b∈fp,H' b=none)/\W i n σ' H') ?_ m0 ⟨0,σ,H2,I2,st2,λb hb=>(f2 b hb).1,w0⟩;rintro n s3 ⟨i,σ3,H3,I3,st3,fr3,w3⟩;rcases turn i n σ3 H3 w3 with⟨stop,qn⟩|⟨go,N,hN,step⟩
 .refine wpAny_passesOwn hp (cx (T.done X rfl rfl rfl hc i pins s3 σ3 H3 X.xe I3 (stat fr3) st3 stop) λr s4 ⟨hr,I4⟩=>?_);subst hr;exact wpAny_execs_nil ⟨σ3,H3,I4,qn⟩
 .refine wpAny_passesOwn hp (cx (T.item X rfl rfl rfl hc i pins s3 σ3 H3 X.xe I3 (stat fr3) st3 go) λr s4 ⟨u,hr,h4⟩=>?_);subst hr;refine wpAny_passesOwn hp (cx h4 λ_ s5 ⟨x,H5,I5,r5,y5,st5,fr5⟩=>?_);have I5':=I5.pinned (stat fr5) (T.obj _ _ st5);refine wpAny_passesOwn hp (cx (hg _ s5 σ3 H5 x u _ I5' r5 (step x H5 y5)) λ_ s6 ⟨σ6,H6,I6,q6⟩=>?_);refine wpAny_passesOwn hp (cx (hb _ s6 σ6 H6 _ I6 q6) λf s7 q7=>?_);have again:∀{σ7:St} {H7:Hp},aH X (pins++oG fp s5.heap) σ7 H7 s7->N σ7 H7->∃m,m<n/\∃i σ' H',aH X pins σ' H' s7/\tn i s7.heap/\(∀b∈fp,H' b=none)/\W i m σ' H':=λ{σ7 H7} I7 n7=>by obtain⟨m',hm,w7⟩:=hN σ7 H7 n7;refine⟨m',hm,i+1,σ7,H7,I7.unpinned,T.keep _ _ _ st5 λb hb o e=>(I7.pin (b,o) (mem_append_right _ (mem_append_right _ (dG hb e)))).1,λb hb=>?_,w7⟩;obtain⟨o,e,d⟩:=T.obj _ _ st5 b hb;exact(I7.pin (b,o) (mem_append_right _ (mem_append_right _ (dG hb e)))).2.1
  cases f with
  |next=>obtain⟨σ7,H7,I7,n7⟩:=q7;exact again I7 n7
  |cont=>obtain⟨σ7,H7,I7,n7⟩:=q7;exact again I7 n7
  |brk=>obtain⟨σ7,H7,I7,q7⟩:=q7;exact⟨σ7,H7,I7.unpinned,q7⟩
  |ret v=>obtain⟨x7,σ7,H7,I7,r7,q7⟩:=q7;exact⟨x7,σ7,H7,I7.unpinned,r7,q7⟩
end
theorem bX {K:PySem.W.Frag}{a:Addr}{xs:List V}{g:TG}{tb:TS}{D:jj}{σ:St}{H:Hp}(Pv:Nat->St->Hp->Prop)(h0:Pv 0 σ H)(hl:∀i σ H,i<=xs.length->Pv i σ H->aR K H a xs)
  (hs:∀i x σ H,xs[i]?=some x->Pv i σ H->g x σ H λσ2 H2=>tb { D with nx:=Pv (i+1),ct:=Pv (i+1),bk:=D.nx } σ2 H2) (hd:∀σ H,Pv xs.length σ H->D.nx σ H) :
  ∃W:Nat->Nat->St->Hp->Prop,(∃m,W 0 m σ H)/\∀i m σ H,W i m σ H->
   ((vo K a).stop i H/\D.nx σ H)\/((vo K a).go i H/\∃N:St->Hp->Prop,(∀σ' H',N σ' H'->∃m',m'<m/\W (i+1) m' σ' H')/\∀x H',(vo K a).yld i H x H'->g x σ H' λσ2 H2=>tb { D with nx:=N,ct:=N,bk:=D.nx } σ2 H2):=by
 refine⟨λi m σ H=>m=xs.length-i/\i<=xs.length/\Pv i σ H,⟨xs.length,by simp,zero_le _,h0⟩,?_⟩;rintro i m σ H ⟨rfl,hi,p⟩;have q:=hl i σ H hi p;by_cases hlt:i<xs.length
 .refine .inr ⟨⟨xs,xs[i],q,by simp[hlt]⟩,Pv (i+1),λσ' H' p'=>⟨xs.length-(i+1),by omega,rfl,hlt,p'⟩,λx H' y=>?_⟩;obtain⟨e,y⟩:=y;subst e;exact hs i x σ _ (y xs q) p
 .have e:i=xs.length:=by omega
  subst e;exact .inl ⟨⟨xs,q,Nat.le_refl _⟩,hd σ H p⟩
theorem BW {K:PySem.W.Frag}{a:Addr}{xs:List V}{g:TG}{tb:TS}{D:jj}{σ:St}{H:Hp}(Pv:Nat->St->Hp->Prop)(h0:Pv 0 σ H)(hl:∀i σ H,i<=xs.length->Pv i σ H->eB K H a xs)
  (hs:∀i x σ H,xs[i]?=some x->Pv i σ H->g x σ H λσ2 H2=>tb { D with nx:=Pv (i+1),ct:=Pv (i+1),bk:=D.nx } σ2 H2) (hd:∀σ H,Pv xs.length σ H->D.nx σ H) :
  ∃W:Nat->Nat->St->Hp->Prop,(∃m,W 0 m σ H)/\∀i m σ H,W i m σ H->
   ((E2 K a).stop i H/\D.nx σ H)\/((E2 K a).go i H/\∃N:St->Hp->Prop,(∀σ' H',N σ' H'->∃m',m'<m/\W (i+1) m' σ' H')/\∀x H',(E2 K a).yld i H x H'->g x σ H' λσ2 H2=>tb { D with nx:=N,ct:=N,bk:=D.nx } σ2 H2):=by
 refine⟨λi m σ H=>m=xs.length-i/\i<=xs.length/\Pv i σ H,⟨xs.length,by simp,zero_le _,h0⟩,?_⟩;rintro i m σ H ⟨rfl,hi,p⟩;have q:=hl i σ H hi p;by_cases hlt:i<xs.length
 .refine .inr ⟨⟨xs,xs[i],q,by simp[hlt]⟩,Pv (i+1),λσ' H' p'=>⟨xs.length-(i+1),by omega,rfl,hlt,p'⟩,λx H' y=>?_⟩;obtain⟨e,y⟩:=y;subst e;exact hs i x σ _ (y xs q) p
 .have e:i=xs.length:=by omega
  subst e;exact .inl ⟨⟨xs,q,Nat.le_refl _⟩,hd σ H p⟩
theorem qt {lo:Int}{n:Nat}{g:TG}{tb:TS}{D:jj}{σ:St}{H:Hp}(Pv:Nat->St->Hp->Prop)(h0:Pv 0 σ H)
  (hs:∀i σ H,i<n->Pv i σ H->g (.int (lo+i)) σ H λσ2 H2=>tb { D with nx:=Pv (i+1),ct:=Pv (i+1),bk:=D.nx } σ2 H2) (hd:∀σ H,Pv n σ H->D.nx σ H) :
  ∃W:Nat->Nat->St->Hp->Prop,(∃m,W 0 m σ H)/\∀i m σ H,W i m σ H->
   ((x9 lo n).stop i H/\D.nx σ H)\/((x9 lo n).go i H/\∃N:St->Hp->Prop,(∀σ' H',N σ' H'->∃m',m'<m/\W (i+1) m' σ' H')/\∀x H',(x9 lo n).yld i H x H'->g x σ H' λσ2 H2=>tb { D with nx:=N,ct:=N,bk:=D.nx } σ2 H2):=by
 refine⟨λi m σ H=>m=n-i/\i<=n/\Pv i σ H,⟨n,by simp,zero_le _,h0⟩,?_⟩;rintro i m σ H ⟨rfl,hi,p⟩;by_cases hlt:i<n
 .refine .inr ⟨hlt,Pv (i+1),λσ' H' p'=>⟨n-(i+1),by omega,rfl,hlt,p'⟩,λx H' y=>?_⟩;obtain⟨e,y⟩:=y;subst e y;exact hs i σ _ hlt p
 .have e:i=n:=by omega
  subst e;exact .inl ⟨Nat.le_refl _,hd σ H p⟩
theorem tQ {c:TT}{tb:TS}{D:jj}{σ:St}{H:Hp}(Pv:St->Hp->Prop)(μ:St->Hp->Nat)(h0:Pv σ H)
  (hs:∀σ H,Pv σ H->c σ H λb H1=>if b=true then tb { D with nx:=λσ' H'=>Pv σ' H'/\μ σ' H'<μ σ H,ct:=λσ' H'=>Pv σ' H'/\μ σ' H'<μ σ H,bk:=D.nx } σ H1 else D.nx σ H1)
  (mono:∀σ H Q Q',(∀b H1,Q b H1->Q' b H1)->c σ H Q->c σ H Q'):zF c tb D σ H:=by
 refine⟨λm σ H=>m=μ σ H/\Pv σ H,⟨_,rfl,h0⟩,?_⟩;rintro m σ H ⟨rfl,p⟩;refine mono σ H _ _ (λb H1 q=>?_) (hs σ H p);cases b with
 |true=>exact⟨_,λσ' H' ⟨p',l⟩=>⟨_,l,rfl,p'⟩,q⟩
 |false=>exact q
abbrev R2:=V->V->Hp->VK->Prop
def lR (X:Cx)(f:Value->Value->Sem Value)(r:R2):Prop:=∀(pins:List (Addr×Obj)) (s:Shared) (σ:St) (H:Hp) (x y:V) (v u:Value) (Q:VK),aH X pins σ H s->bI x v->bI y u->r x y H Q->
  wpAny (model X.prog X.w) X.A (f v u) (EP X pins σ Q) X.xe s
def Gk (X:Cx)(f:Value->Sem Value)(r:V->Hp->VK->Prop):Prop:=∀(pins:List (Addr×Obj)) (s:Shared) (σ:St) (H:Hp) (x:V) (v:Value) (Q:VK),aH X pins σ H s->bI x v->r x H Q->
  wpAny (model X.prog X.w) X.A (f v) (EP X pins σ Q) X.xe s
def ij (X:Cx)(f:Value)(r:List V->Hp->VK->Prop):Prop:=∀(pins:List (Addr×Obj)) (s:Shared) (σ:St) (H:Hp) (xs:List V) (us:List Value) (Q:VK),aH X pins σ H s->bn xs us->r xs H Q->
  wpAny (model X.prog X.w) X.A (call f us) (EP X pins σ Q) X.xe s
def vp (r:R2)(ta tb:TE):TE:=λσ H Q=>ta σ H λx H1=>tb σ H1 λy H2=>r x y H2 Q
def GN (r:V->Hp->VK->Prop)(ta:TE):TE:=λσ H Q=>ta σ H λx H1=>r x H1 Q
def rI (C:Int->Int->Prop)(g:Int->Int->V):R2:=λx y H Q=>∃i j,x = .int i/\y = .int j/\C i j/\Q (g i j) H
def vq (g:Int->Int->V):R2:=λx y H Q=>∃i j,x = .int i/\y = .int j/\Q (g i j) H
def rU (g:Int->V):V->Hp->VK->Prop:=λx H Q=>∃i,x = .int i/\Q (g i) H
section
variable {X:Cx}{a b c:Expr}{ta tb tc:TE}{pos:Pos}
theorem Ed (ha:PE X a ta)(hb:PE X b tb){pins:List (Addr×Obj)}{s:Shared}{σ:St}{H:Hp}{R:V->V->Hp->Prop}(I:aH X pins σ H s)
  (h:ta σ H λx H1=>tb σ H1 λy H2=>R x y H2) {Q:Value->Shared->Prop} {f:Value->Value->Sem Value}
  (hf:∀v u s2 x y H2,aH X pins σ H2 s2->bI x v->bI y u->R x y H2->wpAny (model X.prog X.w) X.A (f v u) Q X.xe s2) :
  wpAny (model X.prog X.w) X.A (eval a X.env) (λv s₁=>wpAny (model X.prog X.w) X.A (eval b X.env) (λu s₂=>wpAny (model X.prog X.w) X.A (f v u) Q X.xe s₂) X.xe s₁) X.xe s:=by
 refine cx (ha pins s σ H _ I h) λv s1 ⟨x,H1,I1,r1,q1⟩=>?_;refine cx (hb pins s1 σ H1 _ I1 q1) λu s2 ⟨y,H2,I2,r2,q2⟩=>?_;exact hf v u s2 x y H2 I2 r1 r2 q2
theorem aL {op:Operator}{r:R2}(ho:lR X (binaryOp op) r)(ha:PE X a ta)(hb:PE X b tb):PE X (.BinOp a op b pos) (vp r ta tb):=by intro pins s σ H Q I h;exact wpAny_BinOp (Ed ha hb I h λv u s2 x y H2 I2 rx ry q=>ho pins s2 σ H2 x y v u Q I2 rx ry q)
theorem Dm {op:UnaryOp}{r:V->Hp->VK->Prop}(ho:Gk X (unaryOp op) r)(ha:PE X a ta):PE X (.UnaryOp op a pos) (GN r ta):=by intro pins s σ H Q I h;exact UnaryOp_ (cx (ha pins s σ H _ I h) λv s1 ⟨x,H1,I1,r1,q1⟩=>ho pins s1 σ H1 x v Q I1 r1 q1)
theorem Fd {f:Value->Value->Sem Value}{C:Int->Int->Prop}{g:Int->Int->Int}
  (rule:∀(i j:Int) (t u:Tok) (s:Shared) (Q:Value->Shared->Prop) (E:Value->Shared->Prop),C i j->Q (.int (g i j) s.toks) { s with toks:=s.toks+1 }->wpAny (model X.prog X.w) X.A (f (.int i t) (.int j u)) Q E s) :
  lR X f (rI C λi j=>.int (g i j)):=by
 intro pins s σ H x y v u Q I rx ry h;obtain⟨i,j,rfl,rfl,hc,q⟩:=h;obtain⟨t,rfl⟩:=rx;obtain⟨t',rfl⟩:=ry;exact rule i j t t' s _ _ hc ⟨.int (g i j),H,I.tok _,⟨_,rfl⟩,q⟩
theorem Ee {f:Value->Value->Sem Value}{g:Int->Int->Int}
  (rule:∀(i j:Int) (t u:Tok) (s:Shared) (Q:Value->Shared->Prop) (E:Value->Shared->Prop),Q (.int (g i j) s.toks) { s with toks:=s.toks+1 }->wpAny (model X.prog X.w) X.A (f (.int i t) (.int j u)) Q E s) :
  lR X f (vq λi j=>.int (g i j)):=by
 intro pins s σ H x y v u Q I rx ry h;obtain⟨i,j,rfl,rfl,q⟩:=h;obtain⟨t,rfl⟩:=rx;obtain⟨t',rfl⟩:=ry;exact rule i j t t' s _ _ ⟨.int (g i j),H,I.tok _,⟨_,rfl⟩,q⟩
theorem BX {f:Value->Value->Sem Value}{g:Int->Int->Bool}
  (rule:∀(i j:Int) (t u:Tok) (s:Shared) (Q:Value->Shared->Prop) (E:Value->Shared->Prop),Q (.bool (g i j)) s->wpAny (model X.prog X.w) X.A (f (.int i t) (.int j u)) Q E s) :
  lR X f (vq λi j=>.bl (g i j)):=by
 intro pins s σ H x y v u Q I rx ry h;obtain⟨i,j,rfl,rfl,q⟩:=h;obtain⟨t,rfl⟩:=rx;obtain⟨t',rfl⟩:=ry;exact rule i j t t' s _ _ ⟨.bl (g i j),H,I,rfl,q⟩
def Gm (i j:Int):Prop:=0<j/\j<1073741824
def BY (i j:Int):Prop:=(-(2^64)<i/\i<2^64)\/(-(2^64)<j/\j<2^64)
theorem BY.ok {i j:Int}(h:BY i j):IntMulOk i j:=by
 rcases h with⟨h1,h2⟩|⟨h1,h2⟩
 .exact .of_left (intBits_le_64 h1 h2)
 .exact .of_right (intBits_le_64 h1 h2)
theorem cD:lR X (binaryOp .Add) (vq λi j=>.int (i+j)):=Ee λ_ _ _ _ _ _ _ q=>add_int q
theorem d5:lR X (binaryOp .Sub) (vq λi j=>.int (i-j)):=Ee λ_ _ _ _ _ _ _ q=>sub_int q
theorem d6:lR X (binaryOp .Mult) (rI BY λi j=>.int (i*j)):=Fd λ_ _ _ _ _ _ _ hc q=>mul_int q hc.ok
theorem BZ:lR X (binaryOp .FloorDiv) (rI Gm λi j=>.int (i / j)):=Fd λi j _ _ _ _ _ hc q=>by have h1:(0:Int)<j:=hc.1;have h2:j<1073741824:=hc.2;exact floordiv_int (by omega) (by rw[Int.fdiv_eq_ediv_of_nonneg i (by omega)];exact q) (.inl (PyProof.noPylong_small (by omega)))
theorem Ef:lR X (binaryOp .Mod) (rI (λ_ j=>0<j) λi j=>.int (i%j)):=Fd λi j _ _ _ _ _ hc q=>by have h1:(0:Int)<j:=hc;exact mod_int' (by omega) (by rw[Int.fmod_eq_emod_of_nonneg i (by omega)];exact q)
theorem oH:lR X (binaryOp .BitAnd) (vq λi j=>.int (Builtin.bitAnd i j)):=Ee λ_ _ _ _ _ _ _ q=>and_int q
theorem G0 {f:Value->Sem Value}{g:Int->Int}
  (rule:∀(i:Int) (t:Tok) (s:Shared) (Q:Value->Shared->Prop) (E:Value->Shared->Prop),Q (.int (g i) s.toks) { s with toks:=s.toks+1 }->wpAny (model X.prog X.w) X.A (f (.int i t)) Q E s) :
  Gk X f (rU λi=>.int (g i)):=by
 intro pins s σ H x v Q I rx h;obtain⟨i,rfl,q⟩:=h;obtain⟨t,rfl⟩:=rx;exact rule i t s _ _ ⟨.int (g i),H,I.tok _,⟨_,rfl⟩,q⟩
theorem zG:Gk X (unaryOp .USub) (rU λi=>.int (-i)):=G0 λ_ _ _ _ _ q=>neg_int q
end
def Fe:V->V->Bool
 |.non,.non=>true|.non,.int _=>true|.int _,.non=>true|.non,.bl _=>true|.bl _,.non=>true|.non,.str _=>true|.str _,.non=>true
 |.int _,.int _=>true|.bl _,.bl _=>true|.str _,.str _=>true|.byt _,.byt _=>true
 |.int _,.str _=>true|.str _,.int _=>true|.bl _,.str _=>true|.str _,.bl _=>true
 |_,_=>false
def F9:R2:=λx y H Q=>Fe x y=true/\Q (.bl (decide (x=y))) H
def GO:R2:=λx y H Q=>Fe x y=true/\Q (.bl (!decide (x=y))) H
theorem wR {i j:Int}:decide (V.int i=V.int j)=(i==j):=by rw[Bool.eq_iff_iff];simp
theorem zH {i j:Bool}:decide (V.bl i=V.bl j)=(i==j):=by rw[Bool.eq_iff_iff];simp
theorem wS {i j:Str}:decide (V.str i=V.str j)=(i==j):=by rw[Bool.eq_iff_iff];simp
theorem wT {i j:Array UInt8}:decide (V.byt i=V.byt j)=(i.toList==j.toList):=by rw[Bool.eq_iff_iff];cases i;cases j;simp
section
variable {X:Cx}{a b c:Expr}{ta tb tc:TE}{pos:Pos}
theorem bJ {pins:List (Addr×Obj)}{σ:St}{H:Hp}{s:Shared}{Q:VK}{k k':Bool}(I:aH X pins σ H s)(q:Q (.bl k) H)(e:k=k'):EP X pins σ Q (.bool k') s:=by subst e;exact⟨.bl k,H,I,rfl,q⟩
theorem dH:lR X (compareOp .Eq) F9:=by
 intro pins s σ H x y v u Q I rx ry h;obtain⟨hs,q⟩:=h;cases x with
 |non=>
  cases rx;cases y with
  |non=>cases ry;exact EqNone.eq_none_none (bJ I q (by simp))
  |bl j=>cases ry;exact EqNone.eq_none_bool (bJ I q (by simp))
  |int j=>obtain⟨t',rfl⟩:=ry;exact EqNone.eq_none_int (bJ I q (by simp))
  |str j=>obtain⟨t',rfl⟩:=ry;exact EqNone.eq_none_str (bJ I q (by simp))
  |_=>exact absurd (show false=true from hs) Bool.false_ne_true
 |bl i=>
  cases rx;cases y with
  |non=>cases ry;exact EqNone.eq_bool_none (bJ I q (by simp))
  |bl j=>cases ry;exact eq_bool (bJ I q zH)
  |str j=>obtain⟨t',rfl⟩:=ry;exact EqMixed.eq_bool_str (bJ I q (by simp))
  |_=>exact absurd (show false=true from hs) Bool.false_ne_true
 |int i=>
  obtain⟨t,rfl⟩:=rx;cases y with
  |non=>cases ry;exact EqNone.eq_int_none (bJ I q (by simp))
  |int j=>obtain⟨t',rfl⟩:=ry;exact eq_int (bJ I q wR)
  |str j=>obtain⟨t',rfl⟩:=ry;exact EqMixed.eq_int_str (bJ I q (by simp))
  |_=>exact absurd (show false=true from hs) Bool.false_ne_true
 |str i=>
  obtain⟨t,rfl⟩:=rx;cases y with
  |non=>cases ry;exact EqNone.eq_str_none (bJ I q (by simp))
  |bl j=>cases ry;exact EqMixed.eq_str_bool (bJ I q (by simp))
  |int j=>obtain⟨t',rfl⟩:=ry;exact EqMixed.eq_str_int (bJ I q (by simp))
  |str j=>obtain⟨t',rfl⟩:=ry;exact eq_str (bJ I q wS)
  |_=>exact absurd (show false=true from hs) Bool.false_ne_true
 |byt i=>
  obtain⟨t,rfl⟩:=rx;cases y with
  |byt j=>obtain⟨t',rfl⟩:=ry;exact PySem.W.eq_bytes (bJ I q wT)
  |_=>exact absurd (show false=true from hs) Bool.false_ne_true
 |_=>cases y<;>exact absurd (show false=true from hs) Bool.false_ne_true
theorem jt:lR X (compareOp .NotEq) GO:=by
 intro pins s σ H x y v u Q I rx ry h;obtain⟨hs,q⟩:=h;cases x with
 |non=>
  cases rx;cases y with
  |non=>cases ry;exact EqNone.ne_none_none (bJ I q (by simp))
  |bl j=>cases ry;exact EqNone.ne_none_bool (bJ I q (by simp))
  |int j=>obtain⟨t',rfl⟩:=ry;exact EqNone.ne_none_int (bJ I q (by simp))
  |str j=>obtain⟨t',rfl⟩:=ry;exact EqNone.ne_none_str (bJ I q (by simp))
  |_=>exact absurd (show false=true from hs) Bool.false_ne_true
 |bl i=>
  cases rx;cases y with
  |non=>cases ry;exact EqNone.ne_bool_none (bJ I q (by simp))
  |bl j=>cases ry;exact ne_bool (bJ I q (congrArg not zH))
  |str j=>obtain⟨t',rfl⟩:=ry;exact EqMixed.ne_bool_str (bJ I q (by simp))
  |_=>exact absurd (show false=true from hs) Bool.false_ne_true
 |int i=>
  obtain⟨t,rfl⟩:=rx;cases y with
  |non=>cases ry;exact EqNone.ne_int_none (bJ I q (by simp))
  |int j=>obtain⟨t',rfl⟩:=ry;exact ne_int (bJ I q (congrArg not wR))
  |str j=>obtain⟨t',rfl⟩:=ry;exact EqMixed.ne_int_str (bJ I q (by simp))
  |_=>exact absurd (show false=true from hs) Bool.false_ne_true
 |str i=>
  obtain⟨t,rfl⟩:=rx;cases y with
  |non=>cases ry;exact EqNone.ne_str_none (bJ I q (by simp))
  |bl j=>cases ry;exact EqMixed.ne_str_bool (bJ I q (by simp))
  |int j=>obtain⟨t',rfl⟩:=ry;exact EqMixed.ne_str_int (bJ I q (by simp))
  |str j=>obtain⟨t',rfl⟩:=ry;exact ne_str (bJ I q (congrArg not wS))
  |_=>exact absurd (show false=true from hs) Bool.false_ne_true
 |byt i=>
  obtain⟨t,rfl⟩:=rx;cases y with
  |byt j=>obtain⟨t',rfl⟩:=ry;exact PySem.W.ne_bytes (bJ I q (congrArg not wT))
  |_=>exact absurd (show false=true from hs) Bool.false_ne_true
 |_=>cases y<;>exact absurd (show false=true from hs) Bool.false_ne_true
theorem k7:lR X (compareOp .Lt) (vq λi j=>.bl (decide (i<j))):=BX λ_ _ _ _ _ _ _ q=>lt_int q
theorem dw:lR X (compareOp .LtE) (vq λi j=>.bl (decide (i<=j))):=BX λ_ _ _ _ _ _ _ q=>le_int q
theorem fP:lR X (compareOp .Gt) (vq λi j=>.bl (decide (j<i))):=BX λ_ _ _ _ _ _ _ q=>gt_int q
theorem qu:lR X (compareOp .GtE) (vq λi j=>.bl (decide (j<=i))):=BX λ_ _ _ _ _ _ _ q=>ge_int q
theorem zI:lR X (compareOp .Is) (λx y H Q=>y = .non/\Q (.bl (decide (x = .non))) H):=by
 intro pins s σ H x y v u Q I rx ry h;obtain⟨rfl,q⟩:=h;cases ry;refine is_none_gen (bJ I q ?_);cases x<;>first
  |(cases rx;rfl)
  |(obtain⟨t,rfl⟩:=rx;rfl)
theorem B0:lR X (compareOp .IsNot) (λx y H Q=>y = .non/\Q (.bl (!decide (x = .non))) H):=by
 intro pins s σ H x y v u Q I rx ry h;obtain⟨rfl,q⟩:=h;cases ry;refine isnot_none_gen (bJ I q ?_);cases x<;>first
  |(cases rx;rfl)
  |(obtain⟨t,rfl⟩:=rx;rfl)
theorem aB (b:Expr){op:CmpOp}(h:op≠.In:=by decide)(h2:op≠.NotIn:=by decide):behindInMarks op b=false:=by
 have e1:(op==CmpOp.In)=false:=by cases op<;>first|rfl|exact absurd rfl h
 have e2:(op==CmpOp.NotIn)=false:=by cases op<;>first|rfl|exact absurd rfl h2
 cases b<;>simp[behindInMarks,e1,e2]
theorem gL {op:CmpOp}{r:R2}(ho:lR X (compareOp op) r)(ha:PE X a ta)(hb:PE X b tb)(hm:behindInMarks op b=false):PE X (.Compare a [op] [b] pos) (vp r ta tb):=by intro pins s σ H Q I h;exact wpAny_Compare1 (Ed ha hb I h λv u s2 x y H2 I2 rx ry q=>ho pins s2 σ H2 x y v u Q I2 rx ry q) hm
def oJ (t:TE):TT:=λσ H Q=>t σ H λx H'=>∃k,x = .bl k/\Q k H'
theorem ay {op:CmpOp}{r:R2}(ho:lR X (compareOp op) r)(ha:PE X a ta)(hb:PE X b tb)(hm:behindInMarks op b=false):PT X (.Compare a [op] [b] pos) (oJ (vp r ta tb)):=by intro pins s σ H Q I h;refine wpAny_isTrue_Compare1 (cx (ha pins s σ H _ I h) λv s1 ⟨x,H1,I1,r1,q1⟩=>cx (hb pins s1 σ H1 _ I1 q1) λu s2 ⟨y,H2,I2,r2,q2⟩=>cx (ho pins s2 σ H2 x y v u _ I2 r1 r2 q2) λc s3 ⟨z,H3,I3,r3,k,e,q3⟩=>?_) hm;subst e;cases r3;exact wpAny_truthy_bool ⟨H3,I3,q3⟩
def vF (r r':R2)(ta tb tc:TE):TE:=λσ H Q=>ta σ H λx H1=>tb σ H1 λy H2=>r x y H2 λz H3=>∃k,z = .bl k/\
 (if k=true then tc σ H3 λw' H4=>r' y w' H4 Q else Q (.bl false) H3)
theorem tS {op op':CmpOp}{r r':R2}(ho:lR X (compareOp op) r)(ho':lR X (compareOp op') r')(ha:PE X a ta)(hb:PE X b tb)(hc:PE X c tc)
  (hm:lastMarks [op,op'] [b,c]=false:=by with_unfolding_all rfl):PE X (.Compare a [op,op'] [b,c] pos) (vF r r' ta tb tc):=by
 intro pins s σ H Q I h;refine Compare_chain (cx (ha pins s σ H _ I h) λv s1 ⟨x,H1,I1,r1,q1⟩=>chain_link (cx (hb pins s1 σ H1 _ I1 q1) λu s2 ⟨y,H2,I2,r2,q2⟩=>cx (ho pins s2 σ H2 x y v u _ I2 r1 r2 q2) λd s3 ⟨z,H3,I3,r3,k,e,q3⟩=>?_)) hm;subst e;cases r3;refine wpAny_truthy_bool ?_;cases k with
 |false=>exact ite_ff ⟨.bl false,H3,I3,rfl,q3⟩
 |true=>exact ite_tt (chain_last (cx (hc pins s3 σ H3 _ I3 q3) λw' s4 ⟨z',H4,I4,r4,q4⟩=>ho' pins s4 σ H4 y z' u w' Q I4 r2 r4 q4))
theorem eD {op op':CmpOp}{r r':R2}(ho:lR X (compareOp op) r)(ho':lR X (compareOp op') r')(ha:PE X a ta)(hb:PE X b tb)(hc:PE X c tc)
  (hm:lastMarks [op,op'] [b,c]=false:=by with_unfolding_all rfl):PT X (.Compare a [op,op'] [b,c] pos) (oJ (vF r r' ta tb tc)):=by
 intro pins s σ H Q I h;refine isTrue_chain (cx (ha pins s σ H _ I h) λv s1 ⟨x,H1,I1,r1,q1⟩=>test_link (cx (hb pins s1 σ H1 _ I1 q1) λu s2 ⟨y,H2,I2,r2,q2⟩=>cx (ho pins s2 σ H2 x y v u _ I2 r1 r2 q2) λd s3 ⟨z,H3,I3,r3,k,e,q3⟩=>?_)) hm;subst e;cases r3;refine wpAny_truthy_bool ?_;cases k with
 |false=>
  obtain⟨k',e',q'⟩:=q3;cases e';exact ite_ff ⟨H3,I3,q'⟩
 |true=>
  refine ite_tt (test_last (cx (hc pins s3 σ H3 _ I3 q3) λw' s4 ⟨z',H4,I4,r4,q4⟩=>cx (ho' pins s4 σ H4 y z' u w' _ I4 r2 r4 q4) λd' s5 ⟨z2,H5,I5,r5,k2,e2,q5⟩=>?_));subst e2;cases r5;exact wpAny_truthy_bool ⟨H5,I5,q5⟩
theorem rM:(sizeLine:Nat)<2^63:=by rw[sizeLine_eq];decide
theorem tT {x:V}{us:List Value}(r:bn [x] us):∃u,us=[u]/\bI x u:=by
 cases r with
 |cons r1 r2=>cases r2;exact⟨_,rfl,r1⟩
theorem Ff {x y:V}{us:List Value}(r:bn [x,y] us):∃u w',us=[u,w']/\bI x u/\bI y w':=by
 cases r with
 |cons r1 r2=>
  cases r2 with
  |cons r3 r4=>cases r4;exact⟨_,_,rfl,r1,r3⟩
theorem yc (hc:X.calm=true):ij X (.builtin "min") (λxs H Q=>∃i j,xs=[.int i,.int j]/\Q (.int (if j<i then j else i)) H):=by
 intro pins s σ H xs us Q I r h;obtain⟨i,j,rfl,q⟩:=h;obtain⟨u,w',rfl,⟨t,rfl⟩,⟨t',rfl⟩⟩:=Ff r;refine min_two_ints (I.ok.hd hc) λh' tk k=>⟨_,H,I.kept k,?_,q⟩
 by_cases hj:j<i
 .rw[if_pos hj,if_pos hj];exact⟨_,rfl⟩
 .rw[if_neg hj,if_neg hj];exact⟨_,rfl⟩
theorem rN:ij X (.type "str") (λxs H Q=>∃i,xs=[.int i]/\i.natAbs.log2<1920/\Q (.str (toString i)) H):=by intro pins s σ H xs us Q I r h;obtain⟨i,rfl,hz,q⟩:=h;obtain⟨u,rfl,t,rfl⟩:=tT r;exact PySem.P.str_of_int hz ⟨.str _,H,I.tok _,⟨_,rfl⟩,q⟩
theorem zJ:ij X (.builtin "ord") (λxs H Q=>∃x,xs=[.str x]/\x.length=1/\Q (.int (x.cps.getD 0 0:Nat)) H):=by intro pins s σ H xs us Q I r h;obtain⟨x,rfl,hz,q⟩:=h;obtain⟨u,rfl,t,rfl⟩:=tT r;exact ord_of_one hz ⟨.int _,H,I.tok _,⟨_,rfl⟩,q⟩
end
structure vG (h:Heap)(x dx C:Addr)(mA:Str->Option Value):Prop where
 obj:h.get? x=some (instObj C dx)
 ns:h.Ns1 dx mA
 ne:dx≠x
theorem yd {h:Heap}{dx:Addr}{mA:Str->Option Value}(n:h.Ns1 dx mA):∃od,h.get? dx=some od/\∀name,lookIn name od=some (mA name):=by
 obtain⟨o,es,ep,ho,hd,hk,_,hm⟩:=n;refine⟨o,ho,λname=>?_⟩;have e:=hm name;unfold nsFind findBy at e;rw[<- Array.find?_toList]at e;unfold lookIn;rw[hd];dsimp only;split
 .rename_i y q;rw[q]at e;exact congrArg some e
 .rename_i q;rw[q]at e;have a:es.toList.any (·.refKey)=false:=by rw[List.any_eq_false];intro y hy;obtain⟨z,t,hkey⟩:=hk y (Array.mem_toList_iff.mp hy);simp[DictEntry.refKey,hkey]
  have a':¬es.toList.any (·.refKey)=true:=by rw[a];exact Bool.false_ne_true
  rw[if_neg a'];exact congrArg some e
theorem vG.look {h:Heap}{x dx C:Addr}{mA:Str->Option Value}(I:vG h x dx C mA):∃od,PySem.W.InstAt h x (instObj C dx) C (some od)/\∀name,lookIn name od=some (mA name):=let ⟨od,ho,hl⟩:=yd I.ns
 ⟨od,⟨I.obj,rfl,rfl,ho⟩,hl⟩
section
variable {prog:Program}{w:World}{A:Around}{E:Value->Shared->Prop}{s:Shared}{K:PySem.W.Frag}{x dx C f:Addr}{mA:Str->Option Value}{name:Str}{v:Value}
theorem B4 {expr:Bool}{Q:Value->Shared->Prop}(X:K.In s.heap)(I:vG s.heap x dx C mA)(hg:plainGet K C name=true)(hh:hasDictIn K C=true)
  (ha:findIn K (.ref C) name=some none) (hv:mA name=some v) (hv':PySem.W.handedIn v=true) (h:Q v { s with toks:=s.toks+1 }) :
  wpAny (model prog w) A (getAttr (.ref x) name expr) Q E s:=by
 obtain⟨od,J,hl⟩:=I.look;exact PySem.W.get_value X J (plainGet_of hg).1 (PySem.W.findObj_own hh ha rfl (by rw[hl,hv])) hv' h
theorem zK {pl:Sem Bool}{Q:Value×List Value->Shared->Prop}(X:K.In s.heap)(I:vG s.heap x dx C mA)(hg:plainGet K C name=true)
  (hf:findIn K (.ref C) name=some (some (.ref f))) (ht:isFn K (.ref f)=true) (hv:mA name=none) (h:Q (.ref f,[.ref x]) s) :
  wpAny (model prog w) A (getMethod (.ref x) name pl) Q E s:=by
 obtain⟨od,J,hl⟩:=I.look;exact PySem.W.method_fn X J (plainGet_of hg).1 (plainGet_of hg).2 hf (beq_iff_eq.mp ht) (by show(lookIn name od).map (·.isSome)=some false;rw[hl,hv];rfl) h
theorem set_map {ns:List Str}{Q:Unit->Shared->Prop}(X:K.In s.heap)(I:vG s.heap x dx C mA)
  (hs:findIn K (.ref C) "__setattr__"=some (some (.builtin "object.__setattr__"))) (hp:plainOver K C=true) (ht:takerIn K C name=some none) (hh:hasDictIn K C=true)
  (hw:PySem.Within mA ns) (hsz:ns.length<=sizeLine)
  (h:∀h',vG h' x dx C (λy=>if y=name then some v else mA y)->SameBut dx s.heap h'->Q () { s with heap:=h',toks:=s.toks+2 }) :
  wpAny (model prog w) A (setAttr (.ref x) name v) Q E s:=by
 obtain⟨od,J,hl⟩:=I.look;refine PySem.W.set_plain X J hs (PySem.W.osa_open (s:={ s with toks:=s.toks+1 }) (r:=none) X J hp ht λb=>?_);obtain⟨cd,hc,hd'⟩:=PySem.W.any_some hh;have hx:s.heap.get? x=some ⟨.ref C,some dx,.plain,#[]⟩:=I.obj;refine wpAny_bind (wpAny_pure (wpAny_bind (wpAny_bind (wpAny_loadPart hx (wpAny_bind (PySem.W.Looks.here (s:={ s with toks:=s.toks+1 }) (PySem.W.looks_clsIn X hc) ?_))))));rw[hd'];refine wpAny_pure (a:=some dx) (wpAny_bind (wpAny_pure (wpAny_bind ?_)));refine wpAny_nsSet1 (s:={ s with toks:=s.toks+1 }) I.ns λh' hn2 hs2=>?_;obtain⟨oD,esD,epD,hoD,hdD,hcD⟩:=hn2.count (PySem.Within.cons name v hw);refine wpAny_bind (wpAny_lookBehind hoD (by rw[hdD];exact pastItsLine_dict (le_trans hcD (by rw[length_cons];omega))) ?_);exact wpAny_pure (h _ ⟨(hs2.2 _ (Ne.symm I.ne)).trans I.obj,hn2,I.ne⟩ hs2)
theorem zL {R:Result->Shared->Prop}{vs:List Value}{kw:List (Str×Value)}(X:K.In s.heap)(hm:makesIn K C=true)
  (hi:findIn K (.ref C) "__init__"=some (some (.ref f))) (hf:PySem.W.typeIn K (.ref f)=some (.type "function"))
  (h:codeAny (model prog w) (A.under (.builtin "type.__call__" ⟨.ref C::vs,kw⟩)) (.call (.ref f) ⟨.ref (s.heap.objs.size+1)::vs,kw⟩) (PySem.W.InitBack (s.heap.objs.size+1) R) { s with heap:=(s.heap.push emptyDict).push (instObj C s.heap.objs.size) }) :
  codeAny (model prog w) A (.call (.ref C) ⟨vs,kw⟩) R s:=by
 obtain⟨hh,g,d,t,os⟩:=s;exact PySem.W.make_core (PySem.W.makes_of X hm) (PySem.W.looks_findIn X hi) (λself=>PySem.W.bind_fn X self hf) (.inl rfl) h
end
def cy (f:Str)(v:V):List (Str×V)->List (Str×V)
 |[]=>[(f,v)]
 |(g,x)::r=>if g=f then(g,v)::r else(g,x)::cy f v r
theorem mO (f g:Str)(v:V):∀fs:List (Str×V),(cy f v fs).lookup g=if g=f then some v else fs.lookup g
 |[]=>by
  show List.lookup g [(f,v)]=_;by_cases h:g=f
  .have hb:(g==f)=true:=beq_iff_eq.mpr h;simp only[List.lookup,hb,if_pos h]
  .have hb:(g==f)=false:=beq_eq_false_iff_ne.mpr h;simp only[List.lookup,hb,if_neg h]
 |(k,x)::r=>by
  have ih:=mO f g v r;rw[show cy f v ((k,x)::r)=(if k=f then(k,v)::r else(k,x)::cy f v r)from rfl];by_cases hk:k=f
  .rw[if_pos hk];by_cases h:g=k
   .have hb:(g==k)=true:=beq_iff_eq.mpr h;simp only[List.lookup,hb,if_pos (h.trans hk)]
   .have hb:(g==k)=false:=beq_eq_false_iff_ne.mpr h;simp only[List.lookup,hb,if_neg (λe:g=f=>h (e.trans hk.symm))]
  .rw[if_neg hk];by_cases h:g=k
   .have hb:(g==k)=true:=beq_iff_eq.mpr h;simp only[List.lookup,hb,if_neg (λe:g=f=>hk (h.symm.trans e))]
   .have hb:(g==k)=false:=beq_eq_false_iff_ne.mpr h;simp only[List.lookup,hb];exact ih
theorem l6 (f:Str)(v:V):∀fs:List (Str×V),f∈(cy f v fs).map (·.1)/\∀g,g∈fs.map (·.1)->g∈(cy f v fs).map (·.1)
 |[]=>⟨by simp[cy],λg h=>by simp at h⟩
 |(k,x)::r=>by
  obtain⟨i1,i2⟩:=l6 f v r;rw[show cy f v ((k,x)::r)=(if k=f then(k,v)::r else(k,x)::cy f v r)from rfl];by_cases hk:k=f
  .rw[if_pos hk];subst hk;exact⟨by simp,λg h=>by simpa using h⟩
  .rw[if_neg hk];refine⟨?_,λg h=>?_⟩
   .rw[map_cons];exact mem_cons_of_mem _ i1
   .rw[map_cons]at h ⊢;rcases mem_cons.mp h with e|e
    .exact mem_cons.mpr (.inl e)
    .exact mem_cons_of_mem _ (i2 g e)
theorem mP (f:Str)(v:V):∀fs:List (Str×V),(cy f v fs).length<=fs.length+1
 |[]=>by simp[cy]
 |(k,x)::r=>by
  have ih:=mP f v r;rw[show cy f v ((k,x)::r)=(if k=f then(k,v)::r else(k,x)::cy f v r)from rfl];by_cases hk:k=f
  .rw[if_pos hk,length_cons,length_cons];omega
  .rw[if_neg hk,length_cons,length_cons];omega
theorem js.some_of {v:V}{o:Option Value}(r:js (some v) o):∃u,o=some u/\bI v u:=by
 cases o with
 |none=>exact(show False from r).elim
 |some u=>exact⟨u,rfl,r⟩
theorem js.none_of {o:Option Value}(r:js none o):o=none:=by
 cases o with
 |none=>rfl
 |some u=>exact(show False from r).elim
theorem ye {v:V}{u:Value}(r:bI v u):PySem.W.handedIn u=true:=by
 cases v with
 |non=>cases (show u=Value.none from r);rfl
 |bl b=>cases (show u=Value.bool b from r);rfl
 |int i=>obtain⟨t,e⟩:=(show∃t,u=Value.int i t from r);cases e;rfl
 |str x=>obtain⟨t,e⟩:=(show∃t,u=Value.str x t from r);cases e;rfl
 |byt b=>obtain⟨t,e⟩:=(show∃t,u=Value.bytes b t from r);cases e;rfl
 |flt b=>obtain⟨t,e⟩:=(show∃t,u=Value.float b t from r);cases e;rfl
 |ref a=>cases (show u=Value.ref a from r);rfl
 |ty n=>cases (show u=Value.type n from r);rfl
section
variable {P:Program}{w:World}{H H':Hp}{h h':Heap}{a C dx:Addr}{fs fs':List (Str×V)}
theorem rO (hok:ji P w H h)(e:H a=some (.ins C dx fs)):∃mA,vG h a dx C mA/\(∀f,js (fs.lookup f) (mA f))/\PySem.Within mA (fs.map (·.1))/\fs.length<=1000/\H dx=some (.own a):=by
 obtain⟨d,z,ne,ob,mA,n,r,q⟩:=(show cX P w H h a (.ins C dx fs)from hok a _ e)
 exact⟨mA,⟨ob,n,ne⟩,r,q,z,d⟩
end
structure lS (K:PySem.W.Frag)(C:Addr):Prop where
 pg:plainGet K C Str.empty=true
 hd:hasDictIn K C=true
 po:plainOver K C=true
 sa:findIn K (.ref C) "__setattr__"=some (some (.builtin "object.__setattr__"))
theorem lS.get {K:PySem.W.Frag}{C:Addr}(c:lS K C)(f:Str):plainGet K C f=true:=c.pg
def aN (K:PySem.W.Frag)(C:Addr)(f:Str):Prop:=findIn K (.ref C) f=some none
theorem aN.taker {K:PySem.W.Frag}{C:Addr}{f:Str}(n:aN K C f):takerIn K C f=some none:=by
 unfold takerIn;rw[show findIn K (.ref C) f=some none from n]
 rfl
structure B5 (K:PySem.W.Frag)(C:Addr)(m:Str)(f:Addr):Prop where
 at_:findIn K (.ref C) m=some (some (.ref f))
 fn:isFn K (.ref f)=true
 kp:keepIn K (.ref f)=true
section
variable {X:Cx}{pins:List (Addr×Obj)}{σ:St}{H:Hp}{s:Shared}{a C dx:Addr}{fs:List (Str×V)}{f:Str}{v:V}{A:Around}{E:Value->Shared->Prop}
theorem vH {b:Bool}{Q:Value->Shared->Prop}(I:aH X pins σ H s)(e:H a=some (.ins C dx fs))(c:lS X.K C)(n:aN X.K C f)(l:fs.lookup f=some v)
  (h:∀u s',aH X pins σ H s'->bI v u->Q u s'):wpAny (model X.prog X.w) A (getAttr (.ref a) f b) Q E s:=by
 obtain⟨mA,O,r,_,_,_⟩:=rO I.hok e;obtain⟨u,hu,ru⟩:=js.some_of (v:=v) (o:=mA f) (by rw[<- l];exact r f);exact B4 I.kIn O (c.get f) c.hd n hu (ye ru) (h u _ (I.tok _) ru)
theorem oK {m:Str}{g:Addr}{pl:Sem Bool}{Q:Value×List Value->Shared->Prop}(I:aH X pins σ H s)(e:H a=some (.ins C dx fs))(c:lS X.K C)(k:B5 X.K C m g)(l:fs.lookup m=none)
  (h:Q (.ref g,[.ref a]) s):wpAny (model X.prog X.w) A (getMethod (.ref a) m pl) Q E s:=by
 obtain⟨mA,O,r,_,_,_⟩:=rO I.hok e;have hn:mA m=none:=js.none_of (by rw[<- l];exact r m);exact zK I.kIn O (c.get m) k.at_ k.fn hn h
theorem vI {y:V}{u:Value}{Q:Unit->Shared->Prop}(I:aH X pins σ H s)(e:H a=some (.ins C dx fs))(c:lS X.K C)(n:aN X.K C f)(hl:fs.length<1000)(ry:bI y u)
  (h:∀s',aH X pins σ (upd H a (.ins C dx (cy f y fs))) s'->Q () s'):wpAny (model X.prog X.w) A (setAttr (.ref a) f u) Q E s:=by
 obtain⟨mA,O,r,wi,_,ho⟩:=rO I.hok e;have hz:(fs.map (·.1)).length<=sizeLine:=by rw[length_map,sizeLine_eq];omega
 refine set_map I.kIn O c.sa c.po n.taker c.hd wi hz λh' O' sb=>h _ ?_;have hd:∃o,h'.get? dx=some o:=let ⟨o,_,_,e',_⟩:=O'.ns;⟨o,e'⟩
 refine I.write (x:=a) (e:=dx) (by rw[e];exact True.intro) (.inr ho) (λb q hb z=>(sb.2 b hb).trans z) hd ?_;refine⟨by rw[ah O.ne];exact ho,?_,O.ne,O'.obj,_,O'.ns,λg=>?_,λg hg=>?_⟩
 .have:=mP f y fs;omega
 .show js ((cy f y fs).lookup g) (if g=f then some u else mA g);rw[mO];by_cases q:g=f
  .rw[if_pos q,if_pos q];exact ry
  .rw[if_neg q,if_neg q];exact r g
 .by_cases q:g=f
  .rw[q];exact(l6 f y fs).1
  .refine(l6 f y fs).2 g (wi g λz=>hg ?_);show(if g=f then some u else mA g)=none;rw[if_neg q];exact z
theorem aH.made (I:aH X pins σ H s):aH X pins σ (upd (upd H s.heap.objs.size (.own (s.heap.objs.size+1))) (s.heap.objs.size+1) (.ins C s.heap.objs.size []))
  { s with heap:=(s.heap.push emptyDict).push (instObj C s.heap.objs.size) }:=by
 have e1:(s.heap.push emptyDict).get? s.heap.objs.size=some emptyDict:=get?_push_size s.heap rfl;have e2:((s.heap.push emptyDict).push (instObj C s.heap.objs.size)).get? (s.heap.objs.size+1)=some (instObj C s.heap.objs.size):=by
  have:=get?_push_size (s.heap.push emptyDict) (o:=instObj C s.heap.objs.size) rfl
  rwa [size_push]at this
 have e3:(s.heap.push emptyDict).Ns s.heap.objs.size (λ_=>none):=⟨emptyDict,#[],_,e1,rfl,(λe he=>absurd he (by simp)),λ_=>rfl⟩
 have I1:=I.laid (a:=s.heap.objs.size) (o:=.own (s.heap.objs.size+1)) (h':=s.heap.push emptyDict) (t':=s.toks) (λb u q=>get?_push_of_some _ q) (Nat.le_refl _) ⟨_,e1⟩;refine I1.laid (a:=s.heap.objs.size+1) (o:=.ins C s.heap.objs.size []) (t':=s.toks) (λb u q=>get?_push_of_some _ q) (le_of_eq (size_push _ _)) ?_;have ne:s.heap.objs.size≠s.heap.objs.size+1:=ne_of_lt (lt_succ_self _);refine⟨by rw[ah ne,ac],zero_le _,ne,e2,λ_=>none,(Heap.Ns1.of_empty e3).at λo q=>get?_push_of_some _ q,λ_=>True.intro,λy hy=>absurd rfl hy⟩
theorem B7 {prog:Program}{w:World}{env:Env}{e:Expr}{f:Str}{pos:Pos}{s:Shared}{Q:Value->Shared->Prop}(hb:attributeBase e f env (eval e env)=eval e env)
  (h:wpAny (model prog w) A (eval e env) (λo s₁=>wpAny (model prog w) A (getAttr o f true) Q E s₁) E s):wpAny (model prog w) A (eval (.Attribute e f pos) env) Q E s:=
 Attribute_any_ h (by rw[arm_eval_Attribute,hb])
end
inductive Fg (K:PySem.W.Frag)(f:Str)(Q:VK)(x:V)(H:Hp):Prop
 |mk (a C dx:Addr)(fs:List (Str×V))(v:V)(_:x = .ref a)(_:H a=some (.ins C dx fs))(_:lS K C)(_:aN K C f)(_:fs.lookup f=some v)(_:Q v H)
def tU (K:PySem.W.Frag)(ta:TE)(f:Str):TE:=λσ H Q=>ta σ H (Fg K f Q)
inductive zM (K:PySem.W.Frag)(f:Str)(y:V)(R:Hp->Prop)(x:V)(H:Hp):Prop
 |mk (a C dx:Addr)(fs:List (Str×V))(_:x = .ref a)(_:H a=some (.ins C dx fs))(_:lS K C)(_:aN K C f)(_:fs.length<1000)(_:R (upd H a (.ins C dx (cy f y fs))))
def Fh (K:PySem.W.Frag)(ta tv:TE)(f:Str):TS:=λD σ H=>tv σ H λy H1=>ta σ H1 (zM K f y (D.nx σ))
section
variable {X:Cx}{o e value:Expr}{f:Str}{pos pos' tpos:Pos}{ta tv:TE}
theorem am (he:PE X e ta)(hb:attributeBase e f X.env (eval e X.env)=eval e X.env):PE X (.Attribute e f pos) (tU X.K ta f):=by intro pins s σ H Q I h;refine B7 hb (cx (he pins s σ H _ I h) λu s1 ⟨x,H1,I1,rx,a,C,dx,fs,v,ex,ea,c,n,l,q⟩=>?_);subst ex;obtain rfl:u=Value.ref a:=rx;exact vH I1 ea c n l λu' s2 I2 ru=>⟨v,H1,I2,ru,q⟩
theorem bp (ha:PE X o ta)(hv:PE X value tv)(hs:swapsWith value (some (.Attribute o f pos')) pos.line X.env=pure false):PS X (.Assign [.Attribute o f pos'] value pos) (Fh X.K ta tv f):=by intro pins s σ H D I h;refine plainObj_wpAny_Assign_Attribute (cx (hv pins s σ H _ I h) λu s1 ⟨y,H1,I1,ry,q⟩=>cx (ha pins s1 σ H1 _ I1 q) λov s2 ⟨x,H2,I2,rx,a,C,dx,fs,ex,ea,c,n,l,q2⟩=>?_) hs;subst ex;obtain rfl:ov=Value.ref a:=rx;exact vI I2 ea c n l ry λs3 I3=>⟨σ,_,I3,q2⟩
end
section
variable {X:Cx}{pins:List (Addr×Obj)}{σ:St}{H:Hp}{s:Shared}{A:Around}{E:Value->Shared->Prop}{Q:Value->Shared->Prop}{c:Value}{b:Bool}
end
structure dk (k:Nat)(A:Around):Prop where
 hd:A.handled=none
 dp:A.depth+3*k+5<recursionLimit
 un:A.units+16*k+200<cLine
theorem dk.mono {j k:Nat}{A:Around}(r:dk k A)(h:j<=k):dk j A:=⟨r.hd,by have:=r.dp;omega,by have:=r.un;omega⟩
theorem dk.deeper {k:Nat}{A:Around}(r:dk (k+1) A)(env:Env):dk k (A.deeper env):=⟨r.hd,by have:=r.dp;show A.depth+1+3*k+5<_;omega,by have:=r.un;show A.units+3+16*k+200<_;omega⟩
theorem dk.in1 {k:Nat}{A:Around}(r:dk (k+1) A):dk k A.in1:=⟨r.hd,by have:=r.dp;show A.depth+3*k+5<_;omega,by have:=r.un;show A.units+1+16*k+200<_;omega⟩
theorem vJ {A:Around}{C:Addr}{us:List Value}{kw:List (Str×Value)}:(A.under (.builtin "type.__call__" ⟨.ref C::us,kw⟩)).depth=A.depth+1:=by
 first|rfl|simp[Around.under,Code.weight,Code.isCreation,Code.isGuard,Code.isCaller,Code.frames,Code.isFrame,guardIds]
theorem vK {A:Around}{C:Addr}{us:List Value}{kw:List (Str×Value)}:(A.under (.builtin "type.__call__" ⟨.ref C::us,kw⟩)).units=A.units+1:=by
 first|rfl|simp[Around.under,Code.cUnits,Code.frames,Code.isFrame]
theorem dk.make {k:Nat}{A:Around}(r:dk (k+1) A)(C:Addr)(us:List Value)(kw:List (Str×Value)):dk k (A.under (.builtin "type.__call__" ⟨.ref C::us,kw⟩)):=⟨r.hd,by have:=r.dp;rw[vJ];omega,by have:=r.un;rw[vK];omega⟩
theorem dk.depth {k:Nat}{A:Around}(r:dk k A):A.depth<recursionLimit:=by have:=r.dp;omega
theorem dk.units {k:Nat}{A:Around}(r:dk k A):A.units+64<cLine:=by have:=r.un;omega
def jk:TA:=λ_ H Q=>Q [] H
def gq (ta:TE)(tr:TA):TA:=λσ H Q=>ta σ H λx H1=>tr σ H1 λxs H2=>Q (x::xs) H2
section
variable {X:Cx}{e:Expr}{es:List Expr}{te:TE}{t:TA}{pos:Pos}
theorem af:PA X [] jk:=λ_ _ _ _ H Q I h=>Calls.spliced_nil ⟨[],H,I,.nil,h⟩
theorem ab (ha:PE X e te)(hr:PA X es t)(hs:starEach (e::es) X.env=(false,eval e X.env)::starEach es X.env:=by rfl):PA X (e::es) (gq te t):=by intro pos pins s σ H Q I h;rw[hs];show wpAny _ _ (spliced ((false,eval e X.env)::backTo pos (starEach es X.env))) _ _ s;refine Calls.spliced_cons (cx (ha pins s σ H _ I h) λu s1 ⟨x,H1,I1,r1,q1⟩=>?_);exact cx (hr pos pins s1 σ H1 _ I1 q1) λus s2 ⟨xs,H2,I2,r2,q2⟩=>⟨x::xs,H2,I2,.cons r1 r2,q2⟩
def Fi (t:TA):TE:=λσ H Q=>t σ H λxs H1=>xs.length<=sizeLine/\∀p,H1 p=none->Q (.ref p) (upd H1 p (.tup xs))
def yf (t:TA):TE:=λσ H Q=>t σ H λxs H1=>xs.length<=sizeLine/\∀p,H1 p=none->Q (.ref p) (upd H1 p (.lst xs))
theorem oM {x1}(h:PA X es t):PE X (.Tuple es x1 pos) (Fi t):=by intro pins s σ H Q I hq;refine wpAny_Tuple_spliced (cx (h pos pins s σ H _ I hq) λus s1 ⟨xs,H1,I1,r,z,q⟩=>⟨by rw[<- r.length];exact z,?_⟩);have hf:H1 s1.heap.objs.size=none:=I1.hok.fresh (Nat.le_refl _);refine⟨.ref s1.heap.objs.size,upd H1 s1.heap.objs.size (.tup xs),I1.laid (t':=s1.toks) (λb u e=>get?_push_of_some _ e) (Nat.le_refl _) ?_,rfl,q _ hf⟩;exact⟨z,us,r,⟨_,get?_push_size _ rfl,rfl,_,rfl⟩⟩
theorem aw (h:PA X es t):PE X (.List es pos) (yf t):=by intro pins s σ H Q I hq;refine wpAny_List_spliced (cx (h pos pins s σ H _ I hq) λus s1 ⟨xs,H1,I1,r,z,q⟩=>⟨by rw[<- r.length];exact z,?_⟩);have hf:H1 s1.heap.objs.size=none:=I1.hok.fresh (Nat.le_refl _);refine⟨.ref s1.heap.objs.size,upd H1 s1.heap.objs.size (.lst xs),I1.laid (t':=s1.toks) (λb u e=>get?_push_of_some _ e) (Nat.le_refl _) ?_,rfl,q _ hf⟩;exact⟨z,us,0,r,get?_push_size _ rfl⟩
end
abbrev Sp:=List V->Hp->VK->XK->Prop
abbrev zm:=List Env->Hp->Shared->XK->Value->Shared->Prop
structure vL (P:Program)(w:World)(K:PySem.W.Frag)(mg:Str->Option Value)(base:Heap)(A:Around)(outer:List Env)(s:Shared)(H:Hp):Prop where
 frames:A.frames=some outer
 mod:Mod K mg base
 bs:∀b o,base.get? b=some o->s.heap.get? b=some o/\H b=none
 bsz:base.objs.size<=s.heap.objs.size
 funs:s.heap.FunFrames base outer
 frf:∀b∈zA outer,H b=none
 hok:ji P w H s.heap
 bare:AllBare s.gens
def CE (outer:List Env)(P:Program)(w:World)(H:Hp)(s:Shared)(Q:VK)(u:Value)(s':Shared):Prop:=∃v H',s'.os=s.os/\AllBare s'.gens/\Un (zA outer) [] H H' s.heap s'.heap/\ji P w H' s'.heap/\bI v u/\Q v H'
def CR (CX:zm)(outer:List Env)(P:Program)(w:World)(H:Hp)(s:Shared)(Q:VK)(E:XK)(r:Result)(s':Shared):Prop:=match r with
 |.ok (.ret u)=>CE outer P w H s Q u s'
 |.ok _=>False
 |.error e=>CX outer H s E e s'
structure aG (P:Program)(w:World)(K:PySem.W.Frag)(mg:Str->Option Value)(base:Heap)(CX:zm)(k:Nat)(f:Addr)(fd:FuncData)(ps:List Str)(sp:Sp):Prop where
 len:∀vs H Q E,sp vs H Q E->vs.length=ps.length
 run:∀(A:Around) (outer:List Env) (s:Shared) (H:Hp) (args:Args) (us:List Value) (vs:List V) (Q:VK) (E:XK),dk k A->vL P w K mg base A outer s H->BindsTo s fd args (ps.zip us)->bn vs us->sp vs H Q E->
  codeAny (model P w) A (.call (.ref f) args) (CR CX outer P w H s Q E) s
theorem vL.make {P:Program}{w:World}{K:PySem.W.Frag}{mg:Str->Option Value}{base:Heap}{A:Around}{outer:List Env}{s:Shared}{H:Hp}(e:vL P w K mg base A outer s H)(C:Addr)(us:List Value)(kw:List (Str×Value)) :
  vL P w K mg base (A.under (.builtin "type.__call__" ⟨.ref C::us,kw⟩)) outer s H:=⟨by first|exact e.frames|(simpa [Around.under,Code.envs,Code.isFrame,pushEnvs]using e.frames),e.mod,e.bs,e.bsz,e.funs,e.frf,e.hok,e.bare⟩
section
variable {X:Cx}{pins:List (Addr×Obj)}{σ:St}{H:Hp}{s s':Shared}
theorem aH.env0 (I:aH X pins σ H s):vL X.prog X.w X.K X.mg X.base X.A X.stack s H:=⟨I.ok.frames,I.ok.mod,I.bs,le_trans I.ok.bsz I.sz,I.stack,I.stkFree,I.hok,I.bare⟩
theorem aH.after {Q:VK}{u:Value}(I:aH X pins σ H s)(h:CE X.stack X.prog X.w H s Q u s'):EP X pins σ Q u s':=by obtain⟨v,H',os,bare,un,hok,r,q⟩:=h;obtain⟨hh,g,d,t,os'⟩:=s';obtain rfl:os'=s.os:=os;exact⟨v,H',I.call (h':=hh) (g':=g) (d':=d) (t':=t) (ch:=[]) un hok bare (λb z=>absurd z (by simp)),r,q⟩
end
def Fj (sp:Sp)(dvs:List V)(E:XK)(t:TA):TE:=λσ H Q=>t σ H λvs H1=>sp (vs++dvs) H1 Q E
def Dn (C:Addr)(m:Str)(sp:Sp)(dvs:List V)(E:XK)(ta:TE)(t:TA):TE:=λσ H Q=>ta σ H λx H1=>∃a dx fs,x = .ref a/\H1 a=some (.ins C dx fs)/\fs.lookup m=none/\
 t σ H1 λvs H2=>sp (x::(vs++dvs)) H2 Q E
def Do (C:Addr)(sp:Sp)(dvs:List V)(E:XK)(t:TA):TE:=λσ H Q=>t σ H λvs H1=>∀x dx,H1 x=none->H1 dx=none->dx≠x->
 sp (.ref x::(vs++dvs)) (upd (upd H1 dx (.own x)) x (.ins C dx [])) (λv H2=>v = .non/\Q (.ref x) H2) E
def dm (K:PySem.W.Frag)(fd:FuncData)(ps:List Str)(ds:List Value):Prop:=∀(s:Shared) (us:List Value),K.In s.heap->(us++ds).length=ps.length->BindsTo s fd ⟨us,[]⟩ (ps.zip (us++ds))
theorem dm.all {K:PySem.W.Frag}{fd:FuncData}{ps:List Str}(h:∀us:List Value,us.length=ps.length->bindArgs fd ⟨us,[]⟩=pure (ps.zip us)):dm K fd ps []:=λs us _ hl=>by rw[append_nil]at hl ⊢;exact .of_eq (h us hl)
def ju (CX:zm)(X:Cx)(E:XK):Prop:=∀(pins:List (Addr×Obj)) (σ:St) (H:Hp) (s:Shared) (e:Value) (s':Shared),aH X pins σ H s->CX X.stack H s E e s'->X.xe e s'
section
variable {X:Cx}{CX:zm}{k:Nat}{f C:Addr}{fd:FuncData}{ps:List Str}{sp:Sp}{dvs:List V}{ds:List Value}{E:XK}{x m:Str}{p pos apos:Pos}{e o:Expr}{es:List Expr}{ta:TE}{t:TA}
theorem rP {pins:List (Addr×Obj)}{σ:St}{H:Hp}{s:Shared}{Q:VK}{us:List Value}{vs:List V}(F:aG X.prog X.w X.K X.mg X.base CX k f fd ps sp)(hr:dk k X.A)(hb:dm X.K fd ps ds)(hd:bn dvs ds)(hx:ju CX X E)
  (I:aH X pins σ H s) (r:bn vs us) (h:sp (vs++dvs) H Q E):wpAny (model X.prog X.w) X.A (call (.ref f) us) (EP X pins σ Q) X.xe s:=by
 have r2:bn (vs++dvs) (us++ds):=r.append hd;have hl:(us++ds).length=ps.length:=by rw[<- r2.length];exact F.len _ _ _ _ h
 refine wpAny_call (codeAny_mono (F.run X.A X.stack s H ⟨us,[]⟩ (us++ds) (vs++dvs) Q E hr I.env0 (hb s us I.kIn hl) r2 h) λr s' hq=>?_);cases r with
 |error e=>exact hx pins σ H s e s' I hq
 |ok fl=>
  cases fl with
  |ret u=>exact I.after hq
  |next=>exact False.elim hq
  |brk=>exact False.elim hq
  |cont=>exact False.elim hq
theorem B9 (F:aG X.prog X.w X.K X.mg X.base CX k f fd ps sp)(hr:dk k X.A)(hg:Gl X x)(hm:X.mg x=some (.ref f))(hk:keepIn X.K (.ref f)=true)(hb:dm X.K fd ps ds)(hd:bn dvs ds)(hx:ju CX X E)
  (ha:PA X (e::es) t) (hdb:(x==("__debug__":Str))=false:=by decide) (he:starEach (e::es) X.env=(false,eval e X.env)::starEach es X.env:=by rfl) (hpl:(backTo pos (starEach es X.env)).any (·.1)=false:=by rfl) :
  PE X (.Call (.Name x p) (e::es) [] pos) (Fj sp dvs E t):=by
 intro pins s σ H Q I h;refine wpAny_Call_Name_kw (nM I hg hm ?_ hdb);refine callWith_K (h₀:=X.base) I.ok.mod.kin hk (cx (ha pos pins s σ H _ I h) λus s1 ⟨vs,H1,I1,r,q⟩=>⟨I1.kIn,?_⟩) he hpl;exact rP F hr hb hd hx I1 r q
theorem Ca {pl:Sem Bool}(he:PE X o ta)(c:lS X.K C)(hm:B5 X.K C m f)(F:aG X.prog X.w X.K X.mg X.base CX k f fd ps sp)(hr:dk k X.A)(hb:dm X.K fd ps ds)(hd:bn dvs ds)(hx:ju CX X E)(ha:PA X (e::es) t)
  (hst:starEach (e::es) X.env=(false,eval e X.env)::starEach es X.env:=by rfl) (hpl:(backTo pos (starEach es X.env)).any (·.1)=false:=by rfl)
  (ht:eval (.Call (.Attribute o m apos) (e::es) [] pos) X.env=(do
   let ov <- eval o X.env
   standAt apos.atName
   let (f,first) <- holding [ov] (getMethod ov m pl)
   callWith pos f first (backTo pos (starEach (e::es) X.env)) (backToKw pos (keywordEach [] X.env))):=by rfl) :
  PE X (.Call (.Attribute o m apos) (e::es) [] pos) (Dn C m sp dvs E ta t):=by
 intro pins s σ H Q I h;refine PySem.W.methodCall_KW (pl:=pl) (cx (he pins s σ H _ I h) λu s1 ⟨x,H1,I1,rx,a,dx,fs,ex,ea,l,q⟩=>?_) ht;subst ex;obtain rfl:u=Value.ref a:=rx;refine oK I1 ea c hm l ?_;refine callWith_K (first:=[.ref a]) (h₀:=X.base) I.ok.mod.kin hm.kp (cx (ha pos pins s1 σ H1 _ I1 q) λus s2 ⟨vs,H2,I2,r,q2⟩=>⟨I2.kIn,?_⟩) hst hpl;exact rP (us:=.ref a::us) (vs:=.ref a::vs) F hr hb hd hx I2 (.cons rfl r) q2
theorem zN {pl:Sem Bool}(he:PE X o ta)(c:lS X.K C)(hm:B5 X.K C m f)(F:aG X.prog X.w X.K X.mg X.base CX k f fd ps sp)(hr:dk k X.A)(hb:dm X.K fd ps ds)(hd:bn dvs ds)(hx:ju CX X E)
  (ht:eval (.Call (.Attribute o m apos) [] [] pos) X.env=(do
   let ov <- eval o X.env
   standAt apos.atName
   let (f,first) <- holding [ov] (getMethod ov m pl)
   callWith pos f first (backTo pos (starEach [] X.env)) (backToKw pos (keywordEach [] X.env))):=by rfl) :
  PE X (.Call (.Attribute o m apos) [] [] pos) (Dn C m sp dvs E ta jk):=by
 intro pins s σ H Q I h;refine PySem.W.methodCall_KW (pl:=pl) (cx (he pins s σ H _ I h) λu s1 ⟨x,H1,I1,rx,a,dx,fs,ex,ea,l,q⟩=>?_) ht;subst ex;obtain rfl:u=Value.ref a:=rx;refine oK I1 ea c hm l ?_;exact PySem.W.callWith_K0 (first:=[.ref a]) I1.kIn hm.kp (rP (us:=[.ref a]) (vs:=[.ref a]) F hr hb hd hx I1 (.cons rfl .nil) q)
structure Mk (K:PySem.W.Frag)(C f:Addr):Prop where
 makes:makesIn K C=true
 init:findIn K (.ref C) "__init__"=some (some (.ref f))
 fn:isFn K (.ref f)=true
 kp:keepIn K (.ref C)=true
theorem tV {pins:List (Addr×Obj)}{σ:St}{H:Hp}{s:Shared}{Q:VK}{us:List Value}{vs:List V}(M:Mk X.K C f)(F:aG X.prog X.w X.K X.mg X.base CX k f fd ps sp)(hr:dk (k+1) X.A)(hb:dm X.K fd ps ds)(hd:bn dvs ds)
  (hx:ju CX X E) (I:aH X pins σ H s) (r:bn vs us)
  (h:∀x dx,H x=none->H dx=none->dx≠x->sp (.ref x::(vs++dvs)) (upd (upd H dx (.own x)) x (.ins C dx [])) (λv H2=>v = .non/\Q (.ref x) H2) E) :
  wpAny (model X.prog X.w) X.A (call (.ref C) us) (EP X pins σ Q) X.xe s:=by
 have hq:=h (s.heap.objs.size+1) s.heap.objs.size (I.hok.fresh (le_succ _)) (I.hok.fresh (Nat.le_refl _)) (ne_of_lt (lt_succ_self _));have I2:=aH.made (C:=C) I;have r2:bn (V.ref (s.heap.objs.size+1)::(vs++dvs)) (Value.ref (s.heap.objs.size+1)::(us++ds)):=.cons rfl (r.append hd);have hl:(Value.ref (s.heap.objs.size+1)::us++ds).length=ps.length:=by have e:=r2.length;rw[F.len _ _ _ _ hq]at e;exact e.symm
 refine wpAny_call (zL (f:=f) I.kIn M.makes M.init (beq_iff_eq.mp M.fn) (codeAny_mono (F.run _ X.stack _ _ ⟨Value.ref (s.heap.objs.size+1)::us,[]⟩ (Value.ref (s.heap.objs.size+1)::(us++ds)) _ _ E (hr.make C us []) (I2.env0.make C us []) (hb _ (Value.ref (s.heap.objs.size+1)::us) I2.kIn hl) r2 hq) λr s' hq'=>?_));cases r with
 |error e=>exact hx pins σ _ _ e s' I2 hq'
 |ok fl=>
  cases fl with
  |ret u=>
   obtain⟨v,H',I3,rv,ev,q3⟩:=I2.after hq';subst ev;exact⟨rv,⟨V.ref (s.heap.objs.size+1),H',I3,rfl,q3⟩⟩
  |next=>exact False.elim hq'
  |brk=>exact False.elim hq'
  |cont=>exact False.elim hq'
theorem Cb (M:Mk X.K C f)(F:aG X.prog X.w X.K X.mg X.base CX k f fd ps sp)(hr:dk (k+1) X.A)(hg:Gl X x)(hm:X.mg x=some (.ref C))(hb:dm X.K fd ps ds)(hd:bn dvs ds)(hx:ju CX X E)
  (ha:PA X (e::es) t) (hdb:(x==("__debug__":Str))=false:=by decide) (he:starEach (e::es) X.env=(false,eval e X.env)::starEach es X.env:=by rfl) (hpl:(backTo pos (starEach es X.env)).any (·.1)=false:=by rfl) :
  PE X (.Call (.Name x p) (e::es) [] pos) (Do C sp dvs E t):=by
 intro pins s σ H Q I h;refine wpAny_Call_Name_kw (nM I hg hm ?_ hdb);refine callWith_K (h₀:=X.base) I.ok.mod.kin M.kp (cx (ha pos pins s σ H _ I h) λus s1 ⟨vs,H1,I1,r,q⟩=>⟨I1.kIn,?_⟩) he hpl;exact tV M F hr hb hd hx I1 r q
theorem zO (M:Mk X.K C f)(F:aG X.prog X.w X.K X.mg X.base CX k f fd ps sp)(hr:dk (k+1) X.A)(hg:Gl X x)(hm:X.mg x=some (.ref C))(hb:dm X.K fd ps ds)(hd:bn dvs ds)(hx:ju CX X E)
  (hdb:(x==("__debug__":Str))=false:=by decide):PE X (.Call (.Name x p) [] [] pos) (Do C sp dvs E jk):=by
 intro pins s σ H Q I h;refine wpAny_Call_Name_kw (nM I hg hm ?_ hdb);exact PySem.W.callWith_K0 I.kIn M.kp (tV (us:=[]) M F hr hb hd hx I .nil h)
end
section
variable {X:Cx}{CX:zm}{k:Nat}{f C:Addr}{fd:FuncData}{ps ks:List Str}{sp:Sp}{E:XK}{x m:Str}{p pos apos kpos:Pos}{e o:Expr}{es:List Expr}{kws:List Keyword}{te ta:TE}{t tk:TA}{nm:Option Str}
variable {g:List Value->List Value->List Value}{gV:List V->List V->List V}
end
structure ap (N P:List Str)(sc:Scope):Prop where
 kind:sc.kind = .function
 co:sc.isCoroutine=false
 gen:sc.isGenerator=false
 nd:N.Nodup
 pre:N.take P.length=P
 par:∀x∈P,sc.names.lookup x=some .local\/sc.names.lookup x=some .cell
 nofree:∀y∈sc.names,y.2≠.free
theorem qv {kindOf:Str->Option NameKind}{x:Str}:∀{binds:List (Str×Value)} {m:Str->Option Value},(∀v,(x,v)∉binds)->bindL kindOf binds m x=m x
 |[],_,_=>rfl
 |(n,v)::r,m,h=>by
  unfold bindL;rw[qv λw hw=>h w (mem_cons_of_mem _ hw)];split
  .have:x≠n:=by rintro rfl;exact h v mem_cons_self
   simp[this]
  .rfl
theorem qw {kindOf:Str->Option NameKind}{x:Str}:∀{binds:List (Str×Value)} {m:Str->Option Value},(∀v,(x,v)∉binds)->bindC kindOf binds m x=m x
 |[],_,_=>rfl
 |(n,v)::r,m,h=>by
  unfold bindC;rw[qw λw hw=>h w (mem_cons_of_mem _ hw)];split
  .rfl
  .have:x≠n:=by rintro rfl;exact h v mem_cons_self
   simp[this]
theorem qx {kindOf:Str->Option NameKind}{x:Str}{v:Value}:∀{P:List Str} {vs:List Value} {i:Nat} {m:Str->Option Value},P.Nodup->P[i]?=some x->vs[i]?=some v->kindOf x=some .local->
  bindL kindOf (P.zip vs) m x=some v
 |[],_,_,_,_,h,_,_=>by simp at h
 |_::_,[],_,_,_,_,h,_=>by simp at h
 |p::P,w::vs,0,m,nd,h1,h2,hk=>by simp at h1 h2;subst h1;subst h2;show bindL kindOf ((p,w)::P.zip vs) m p=_;unfold bindL;rw[qv λv hv=>(nodup_cons.mp nd).1 (List.of_mem_zip hv).1,if_pos hk];simp
 |p::P,w::vs,i+1,m,nd,h1,h2,hk=>by show bindL kindOf ((p,w)::P.zip vs) m x=_;unfold bindL;exact qx (i:=i) (nodup_cons.mp nd).2 (by simpa using h1) (by simpa using h2) hk
theorem qy {kindOf:Str->Option NameKind}{x:Str}{v:Value}:∀{P:List Str} {vs:List Value} {i:Nat} {m:Str->Option Value},P.Nodup->P[i]?=some x->vs[i]?=some v->kindOf x≠some .local->
  bindC kindOf (P.zip vs) m x=some v
 |[],_,_,_,_,h,_,_=>by simp at h
 |_::_,[],_,_,_,_,h,_=>by simp at h
 |p::P,w::vs,0,m,nd,h1,h2,hk=>by simp at h1 h2;subst h1;subst h2;show bindC kindOf ((p,w)::P.zip vs) m p=_;unfold bindC;rw[qw λv hv=>(nodup_cons.mp nd).1 (List.of_mem_zip hv).1,if_neg hk];simp
 |p::P,w::vs,i+1,m,nd,h1,h2,hk=>by show bindC kindOf ((p,w)::P.zip vs) m x=_;unfold bindC;exact qy (i:=i) (nodup_cons.mp nd).2 (by simpa using h1) (by simpa using h2) hk
def start (N:List Str)(vs:List V):St:=vs.map some++replicate (N.length-vs.length) none
def ny (CX:zm)(P:Program)(w:World)(K:PySem.W.Frag)(mg:Str->Option Value)(base:Heap)(N:List Str)(qual:Str)(scope:Scope)(f:Addr)(cd:Value)(A:Around)(outer:List Env)(s:Shared)(H:Hp)(E:XK):Cx where
 prog:=P
 w:=w
 K:=K
 mg:=mg
 base:=base
 A:=A.deeper (envOfC qual scope s.heap.objs.size f cd)
 N:=N
 s_0:=s
 H_0:=H
 env:=envOfC qual scope s.heap.objs.size f cd
 outer:=outer
 stack:=envOfC qual scope s.heap.objs.size f cd::outer
 ex:=[]
 calm:=true
 fn:=λ_=>true
 pn:=[]
 xe:=λe s'=>wpAny (model P w) (A.deeper (envOfC qual scope s.heap.objs.size f cd)) (leaving (envOfC qual scope s.heap.objs.size f cd) e) (λ_ s''=>CX outer H s E e s'') (λe' s''=>CX outer H s E e' s'') s'
theorem tW {sc:Scope}{n:Nat}{x:Str}(h:sc.names.lookup x=some .cell):∃c,(cellsFrom n sc.names []).lookup x=some c:=by have q:=PySem.W.cellsFrom_some sc.names n [] (.inl h);exact Option.isSome_iff_exists.mp q
theorem yg {CX:zm}{P:Program}{w:World}{K:PySem.W.Frag}{mg:Str->Option Value}{base:Heap}{N ps:List Str}{qual:Str}{scope:Scope}{f:Addr}{cd:Value}{A:Around}{outer:List Env}{s s1:Shared}{H:Hp}{E:XK}{us:List Value}{vs:List V}
  (S:ap N ps scope) (hd:A.handled=none) (e0:vL P w K mg base A outer s H) (hl:vs.length=ps.length) (r:bn vs us)
  (x:InCallC s s.heap.objs.size (bindL (envOfC qual scope s.heap.objs.size f cd).kindOf (ps.zip us) λ_=>none) (cellsFrom (s.heap.objs.size+1) scope.names []) (bindC (envOfC qual scope s.heap.objs.size f cd).kindOf (ps.zip us) λ_=>none) s1) :
  aH (ny CX P w K mg base N qual scope f cd A outer s H E) [] (start N vs) H s1:=by
 have hpl:ps.length<=N.length:=by have:=congrArg List.length S.pre;rw[length_take]at this;omega
 obtain⟨h1,tk,rfl,hk⟩:=x.done;have noA:∀b:Addr,b∉(ny CX P w K mg base N qual scope f cd A outer s H E).ex:=λb z=>absurd (show b∈([]:List Addr)from z) (by simp);refine⟨⟨e0.mod,S.kind,rfl,rfl,Nat.le_refl _,λy z c h1 h2=>?_,λy hy=>?_,λy c _ h=>?_,λ_=>hd,Around.frames_deeper e0.frames,.inr ⟨rfl,rfl⟩,λb z=>absurd z (noA b),e0.bs,e0.bsz,λb _ _=>noA b,λb z=>absurd z (noA b),e0.funs,e0.frf⟩,rfl,e0.bare,Un.kept hk,⟨_,x.toInCall.ns,λi y v h1 h2 h3=>?_⟩,λy c h=>⟨_,x.cell y c h⟩,e0.hok.fresh (Nat.le_refl _),λy c h=>?_,λp hp=>absurd (show p∈([]:List (Addr×Obj))from hp) (by simp),e0.hok.kept hk,?_⟩
 .exact name_of_addr x.apart (PySem.mem_of_lookup h1) (PySem.mem_of_lookup h2)
 .have hy:scope.names.lookup y=some .cell\/scope.names.lookup y=some .free:=hy;rcases hy with hy|hy
  .exact tW hy
  .exact absurd rfl (S.nofree _ (PySem.mem_of_lookup hy))
 .exact le_of_lt (x.above y c (PySem.mem_of_lookup h))
 .have hi:i<vs.length:=by
   unfold start at h2;by_cases hi:i<vs.length
   .exact hi
   .rw[List.getElem?_append_right (by simpa using hi)]at h2;rw[List.getElem?_replicate]at h2;split at h2<;>cases h2
  have ha:vs[i]?=some v:=by
   unfold start at h2;rw[List.getElem?_append_left (by simpa using hi),getElem?_map]at h2;cases e:vs[i]? with
   |none=>rw[e]at h2;cases h2
   |some a=>rw[e]at h2;cases h2;rfl
  obtain⟨u,hu,rv⟩:=r.get ha;have hp:ps[i]?=some y:=by rw[<- S.pre,List.getElem?_take_of_lt (by omega)];exact h1
  have ndP:ps.Nodup:=by rw[<- S.pre];exact S.nd.sublist (List.take_sublist _ _)
  refine⟨u,rv,?_⟩;rcases S.par y (mem_of_getElem? hp)with k|k
  .exact .inl ⟨k,qx ndP hp hu k⟩
  .obtain⟨c,e⟩:=tW (n:=s.heap.objs.size+1) k;refine .inr ⟨.inl k,c,e,?_⟩;have q:=x.cell y c e;rw[qy ndP hp hu (by show scope.names.lookup y≠_;rw[k];decide)]at q;exact q
 .exact e0.hok.fresh (le_of_lt (x.above y c (PySem.mem_of_lookup h)))
 .unfold start;show _=N.length;rw[length_append,length_map,List.length_replicate];omega
theorem Dq {CX:zm}{P:Program}{w:World}{K:PySem.W.Frag}{mg:Str->Option Value}{base:Heap}{k:Nat}{f:Addr}{name qual:Str}{params:Arguments}{body:List Stmt}{scope:Scope}{dV kV doc pm cdv ct oc:Value}{an od:Option Addr}
  {osl:Array (Option Value)} {N ps:List Str} {sp:Sp} (lk:K.lookup f=some ⟨oc,od,.func (fnOf name qual params body scope dV kV doc pm an cdv ct),osl⟩) (hcd:codeIn K cdv qual=true) (S:ap N ps scope)
  (len:∀vs H Q E,sp vs H Q E->vs.length=ps.length)
  (hbody:∀(A:Around) (outer:List Env) (s:Shared) (H:Hp) (vs:List V) (Q:VK) (E:XK),dk k (A.deeper (envOfC qual scope s.heap.objs.size f cdv))->sp vs H Q E-> ∃t,wM (ny CX P w K mg base N qual scope f cdv A outer s H E) body t/\t { nx:=λ_ H'=>Q .non H',rt:=Q } (start N vs) H) :
  aG P w K mg base CX (k+1) f (fnOf name qual params body scope dV kV doc pm an cdv ct) ps sp:=by
 refine⟨len,λA outer s H args us vs Q E hr e0 hb r hsp=>?_⟩;have hl:=len _ _ _ _ hsp;have KX:K.In s.heap:=e0.mod.kin.keeps λb o e=>(e0.bs b o e).1;have lim:s.heap.NoLimit:=e0.mod.nolimit.keeps λb o e=>(e0.bs b o e).1;have hkind:∀y∈ps.zip us,scope.names.lookup y.1=some .local\/(scope.names.lookup y.1=some .cell/\((cellsFrom (s.heap.objs.size+1) scope.names []).lookup y.1).isSome=true):=λ⟨n,v⟩ hy=>by
  rcases S.par n (List.of_mem_zip hy).1 with q|q
  .exact .inl q
  .exact .inr ⟨q,PySem.W.cellsFrom_some _ _ _ (.inl q)⟩
 refine codeAny_call_function hr.depth (KX _ _ lk) rfl S.co S.gen rfl (PySem.W.codeRec_of KX hcd) (hb _ _ _ _ ?_);refine wpAny_newFunctionEnv_cells S.kind hkind λenv he s1 x=>?_;subst he;refine⟨lim.keeps x.toInCall.keep,codeAny_func ?_⟩;obtain⟨t,ht,hq⟩:=hbody A outer s H vs Q E (hr.deeper _) hsp;have I:aH (ny CX P w K mg base N qual scope f cdv A outer s H E) [] (start N vs) H s1:=yg S hr.hd e0 hl r x;refine wpAny_mono (ht [] s1 (start N vs) H _ I hq) (λfl s' hs=>?_) λe s' hs=>hs;have fin:∀{σ':St} {H':Hp} {v:V} {u:Value},aH (ny CX P w K mg base N qual scope f cdv A outer s H E) [] σ' H' s'->bI v u->Q v H'->CE outer P w H s Q u s':=λ{σ' H' v u} J rv q=>⟨v,H',J.os,J.bare,J.base,J.hok,rv,q⟩
 cases fl with
 |ret u=>
  obtain⟨v,σ',H',J,rv,q⟩:=hs;exact fin J rv q
 |next=>
  obtain⟨σ',H',J,q⟩:=hs;exact fin (v:=V.non) (u:=Value.none) J rfl q
 |brk=>
  obtain⟨_,_,_,q⟩:=hs;exact False.elim q
 |cont=>
  obtain⟨_,_,_,q⟩:=hs;exact False.elim q
section
variable {X:Cx}{x:Str}{p pos:Pos}{e:Expr}{es:List Expr}{t:TA}{id T:String}{r:List V->Hp->VK->Prop}
def Gn (r:List V->Hp->VK->Prop)(t:TA):TE:=λσ H Q=>t σ H λvs H1=>r vs H1 Q
theorem aI (hc:ij X (.builtin id) r)(hg:Gl X x)(hm:X.mg x=none)(hv:bootBuiltins x=some (.builtin id))(ha:PA X (e::es) t)(hn:x ≠ "__name__":=by decide)(hdb:(x==("__debug__":Str))=false:=by decide)
  (he:starEach (e::es) X.env=(false,eval e X.env)::starEach es X.env:=by rfl) (hpl:(backTo pos (starEach es X.env)).any (·.1)=false:=by rfl):PE X (.Call (.Name x p) (e::es) [] pos) (Gn r t):=by
 intro pins s σ H Q I h;refine wpAny_Call_Name_kw (iK I hg hm hv ?_ hn hdb);exact PyProof.Rows.callWith_builtin1 (cx (ha pos pins s σ H _ I h) λus s1 ⟨vs,H1,I1,r1,q1⟩=>hc pins s1 σ H1 vs us Q I1 r1 q1) he hpl
theorem qz (hc:ij X (.type T) r)(hg:Gl X x)(hm:X.mg x=none)(hv:bootBuiltins x=some (.type T))(ha:PA X (e::es) t)(hn:x ≠ "__name__":=by decide)(hdb:(x==("__debug__":Str))=false:=by decide)
  (he:starEach (e::es) X.env=(false,eval e X.env)::starEach es X.env:=by rfl) (hpl:(backTo pos (starEach es X.env)).any (·.1)=false:=by rfl):PE X (.Call (.Name x p) (e::es) [] pos) (Gn r t):=by
 intro pins s σ H Q I h;refine wpAny_Call_Name_kw (iK I hg hm hv ?_ hn hdb);exact PyProof.Rows.callWith_type1 (cx (ha pos pins s σ H _ I h) λus s1 ⟨vs,H1,I1,r1,q1⟩=>hc pins s1 σ H1 vs us Q I1 r1 q1) he hpl
end
end L2
namespace HT
open PyProof.Rows
def lexLt:List Int->List Int->Bool
 |[],[]=>false
 |[],_::_=>true
 |_::_,[]=>false
 |x::xs,y::ys=>if x=y then lexLt xs ys else decide (x<y)
theorem lexLt_cons (x y:Int)(xs ys:List Int):lexLt (x::xs) (y::ys)=if x=y then lexLt xs ys else decide (x<y):=rfl
theorem pT:lexLt [] []=false:=rfl
theorem oN (y:Int)(ys:List Int):lexLt [] (y::ys)=true:=rfl
theorem oO (x:Int)(xs:List Int):lexLt (x::xs) []=false:=rfl
theorem tX (A:Around)(s:Shared)(a:Int)(t:Tok)(c:Int)(u:Tok):∃e,SeqAt.EqAt A s (.int a t) (.int c u) e/\(e=true↔a=c):=⟨(a==c),SeqAt.EqAt.int_int a t c u,by simp⟩
theorem tY (A:Around)(s:Shared)(a:Int)(t:Tok)(c:Int)(u:Tok)(prog:Program)(w:World)(E:Value->Shared->Prop)(Q:Value->Shared->Prop)(h:Q (.bool (decide (a<c))) s) :
  wpAny (model prog w) A (richCompare .Lt (.int a t) (.int c u)) Q E s:=
 (PyProof.Rows.lt_int h:wpAny (model prog w) A (compareOp .Lt (.int a t) (.int c u)) Q E s)
section
open PySem.SeqAt
open PySem.AutoSeq1 (wpAny_loadPart')
open PySem.MeetsSeq PySem.MeetsSeq2 PySem.MeetsSeq3
end
section
variable {prog:Program}{w:World}{A:Around}{E:Value->Shared->Prop}{s:Shared}
def sIx (n d:Nat):Option Int->Nat
 |none=>d
 |some v=>if v<0 then(v+(n:Int)).toNat else min v.toNat n
theorem sIx_none (n d:Nat):sIx n d none=d:=rfl
theorem sIx_nat (n d k:Nat):sIx n d (some (k:Int))=min k n:=by show(if (k:Int)<0 then((k:Int)+(n:Int)).toNat else min (k:Int).toNat n)=min k n;rw[if_neg (by omega),toNat_natCast]
end
end HT
namespace L2
open PyProof.Rows
abbrev TO:=St->Hp->(Option Int->Hp->Prop)->Prop
def PO (X:Cx)(e:Option Expr)(t:TO):Prop:=∀(pins:List (Addr×Obj)) (s:Shared) (σ:St) (H:Hp) (Q:Option Int->Hp->Prop),aH X pins σ H s->t σ H Q->
  wpAny (model X.prog X.w) X.A (evalPart e X.env) (λu s'=>∃o H',aH X pins σ H' s'/\IsPart u o/\Q o H') X.xe s
def wU:TO:=λ_ H Q=>Q none H
def Dr (t:TE):TO:=λσ H Q=>t σ H λx H1=>∃i,x = .int i/\Q (some i) H1
section
variable {X:Cx}{e:Expr}{te:TE}{lo hi:Option Expr}{tl th:TO}{pos p2:Pos}
theorem Cc:PO X none wU:=by intro pins s σ H Q I h;rw[evalPart_none];exact wpAny_pure ⟨none,H,I,.none,h⟩
theorem k8 (h:PE X e te):PO X (some e) (Dr te):=by intro pins s σ H Q I hw;rw[evalPart_some];refine cx (h pins s σ H _ I hw) λu s1 ⟨x,H1,I1,r1,q1⟩=>?_;obtain⟨i,rfl,q⟩:=q1;obtain⟨t,rfl⟩:=r1;exact⟨some i,H1,I1,.int i t,q⟩
def GP (X:Cx)(r:V->Option Int->Option Int->Hp->VK->Prop):Prop:=∀(pins:List (Addr×Obj)) (s:Shared) (σ:St) (H:Hp) (x:V) (v vl vu:Value) (lo hi:Option Int) (sl:Addr) (Q:VK),aH X pins σ H s->bI x v->s.heap.IsSliceOf sl vl vu .none->IsPart vl lo->IsPart vu hi->r x lo hi H Q->
  ∃T id,typeLookup (.type T) "__getitem__"=pure (some (.builtin id))/\s.TypeIs v T/\wpAny (model X.prog X.w) X.A (getItem v (.ref sl)) (EP X pins σ Q) X.xe s
def GQ (r:V->Option Int->Option Int->Hp->VK->Prop)(te:TE)(tl th:TO):TE:=λσ H Q=>te σ H λx H1=>tl σ H1 λl H2=>th σ H2 λu H3=>r x l u H3 Q
theorem oP {r:V->Option Int->Option Int->Hp->VK->Prop}(hr:GP X r)(he:PE X e te)(hl:PO X lo tl)(hu:PO X hi th):PE X (.Subscript e (.Slice lo hi none p2) pos) (GQ r te tl th):=by intro pins s σ H Q I h;refine Subscript_ (cx (he pins s σ H _ I h) λv s1 ⟨x,H1,I1,r1,q1⟩=>?_);refine wpAny_Slice (cx (hl pins s1 σ H1 _ I1 q1) λvl s2 ⟨l,H2,I2,pl,q2⟩=>cx (hu pins s2 σ H2 _ I2 q2) λvu s3 ⟨u,H3,I3,pu,q3⟩=>?_);rw[evalPart_none];refine wpAny_pure ?_;have I4:aH X pins σ H3 { s3 with heap:=s3.heap.push { cls:=.type "slice",data:=.fields #[vl,vu,.none] } }:=I3.kept (t':=s3.toks) λb ob q=>get?_push_of_some _ q;obtain⟨T,id,hT,ht,hg⟩:=hr pins { s3 with heap:=s3.heap.push { cls:=.type "slice",data:=.fields #[vl,vu,.none] } } σ H3 x v vl vu l u s3.heap.objs.size Q I4 r1 (Heap.IsSliceOf.new ..) pl pu q3;show wpAny (model X.prog X.w) X.A (subscriptTail e (.Slice lo hi none p2) v (.ref s3.heap.objs.size)) (EP X pins σ Q) X.xe { s3 with heap:=s3.heap.push { cls:=.type "slice",data:=.fields #[vl,vu,.none] } };exact tail_any (ops:=[.ref s3.heap.objs.size,v]) ht hT hg (by with_unfolding_all rfl)
def nz (xs:List V)(lo hi:Option Int):List V:=(xs.drop (HT.sIx xs.length 0 lo)).take (HT.sIx xs.length xs.length hi-HT.sIx xs.length 0 lo)
theorem tZ (xs:List V)(lo hi:Option Int):(nz xs lo hi).length<=xs.length:=by unfold nz;rw[length_take,length_drop];omega
end
def Cd (n:Nat)(i:Int):Option Nat:=if 0<=i then(if i<n then some i.toNat else none)else if -(n:Int)<=i then some (i+n).toNat else none
def Ce {α:Type}(xs:List α)(i:Int):Option α:=(Cd xs.length i).bind λj=>xs[j]?
theorem wV {n:Nat}{i:Int}{j:Nat}(h:Cd n i=some j):seqIndex? i n=some j/\j<n/\-(n:Int)<=i/\i<n:=by
 unfold Cd at h;by_cases h0:0<=i
 .rw[if_pos h0]at h;by_cases h1:i<n
  .rw[if_pos h1]at h;have e:i.toNat=j:=Option.some.inj h;exact⟨by rw[seqIndex_of h0 h1,e],by omega,by omega,h1⟩
  .rw[if_neg h1]at h;cases h
 .rw[if_neg h0]at h;by_cases h1 : -(n:Int)<=i
  .rw[if_pos h1]at h;have e:(i+n).toNat=j:=Option.some.inj h;exact⟨by rw[seqIndex_neg (by omega) h1,e],by omega,h1,by omega⟩
  .rw[if_neg h1]at h;cases h
theorem wW {α:Type}{xs:List α}{i:Int}{v:α}(h:Ce xs i=some v):∃j,seqIndex? i xs.length=some j/\xs[j]?=some v/\j<xs.length/\-(xs.length:Int)<=i/\i<xs.length:=by
 unfold Ce at h;cases e:Cd xs.length i with
 |none=>rw[e]at h;cases h
 |some j=>
  rw[e]at h;obtain⟨h1,h2,h3,h4⟩:=wV e;exact⟨j,h1,h,h2,h3,h4⟩
theorem aO {α:Type}{xs:List α}{j:Nat}{v:α}(h:xs[j]?=some v):Ce xs (j:Int)=some v:=by
 have hj:j<xs.length:=(List.getElem?_eq_some_iff.mp h).1;have e:Cd xs.length (j:Int)=some j:=by unfold Cd;rw[if_pos (by omega),if_pos (by omega)];simp
 unfold Ce;rw[e];exact h
def Cf (b:Expr):Prop:=∀o i,subscripted b false o i=operate [o,i] (getItem o i)
def Ga (X:Cx)(r:R2):Prop:=∀(value slice:Expr) (pins:List (Addr×Obj)) (s:Shared) (σ:St) (H:Hp) (x y:V) (v u:Value) (Q:VK),aH X pins σ H s->bI x v->bI y u->r x y H Q->
  subscripted slice false v u=operate [v,u] (getItem v u)->wpAny (model X.prog X.w) X.A (subscriptTail value slice v u) (EP X pins σ Q) X.xe s
def Go (X:Cx)(id:String)(r:V->List V->Hp->VK->Prop):Prop:=∀(pins:List (Addr×Obj)) (s:Shared) (σ:St) (H:Hp) (x:V) (xs:List V) (v:Value) (us:List Value) (Q:VK),aH X pins σ H s->bI x v->bn xs us->r x xs H Q->
  wpAny (model X.prog X.w) X.A (call (.builtin id) (v::us)) (EP X pins σ Q) X.xe s
section
variable {X:Cx}{a b:Expr}{ta tb:TE}{pos:Pos}
theorem bf {r:R2}(hr:Ga X r)(ha:PE X a ta)(hb:PE X b tb)(hs:Cf b):PE X (.Subscript a b pos) (vp r ta tb):=by intro pins s σ H Q I h;exact Subscript_ (Ed ha hb I h λv u s2 x y H2 I2 rx ry q=>hr a b pins s2 σ H2 x y v u Q I2 rx ry q (hs _ _))
def Eg (K:PySem.W.Frag):R2:=λx y H Q=>∃p xs i v,x = .ref p/\y = .int i/\aR K H p xs/\Ce xs i=some v/\Q v H
def Fk (K:PySem.W.Frag):R2:=λx y H Q=>∃p xs i v,x = .ref p/\y = .int i/\eB K H p xs/\Ce xs i=some v/\Q v H
theorem aJ:Ga X (Eg X.K):=by
 intro value slice pins s σ H x y v u Q I rx ry h hs;obtain⟨p,xs,i,z,rfl,rfl,hq,he,q⟩:=h;cases rx;obtain⟨t,rfl⟩:=ry;obtain⟨its,r,pl,hz⟩:=I.list hq;obtain⟨j,h1,h2,h3,h4,h5⟩:=wW he;obtain⟨w,ew,rw'⟩:=r.get h2;have hl:=r.length;have hn:=rM;have fin:EP X pins σ Q w s:=⟨z,H,I,rw',q⟩
 by_cases h0:0<=i
 .have hj:i.toNat=j:=by rw[seqIndex_of h0 h5]at h1;exact Option.some.inj h1
  exact item_listR pl.isList h0 (by omega) (by rw[hj];simpa using ew) fin hs
 .have hj:(i+(its.toArray.size:Int)).toNat=j:=by rw[seqIndex_neg (by omega) h4]at h1;rw[size_toArray,<- hl];exact Option.some.inj h1
  exact subscriptTail_builtinR (x:=w) pl.isList.typeIs slot_list_getitem.lookup
   (wpAny_getItem_list_neg (Q:=λr s'=>r=w/\EP X pins σ Q r s') pl.isList (by omega) (by rw[size_toArray]<;>omega) (by omega) (by rw[hj];simpa using ew) ⟨rfl,fin⟩) hs
theorem jv:Ga X (Fk X.K):=by
 intro value slice pins s σ H x y v u Q I rx ry h hs;obtain⟨p,xs,i,z,rfl,rfl,hq,he,q⟩:=h;cases rx;obtain⟨t,rfl⟩:=ry;obtain⟨its,r,pl,hz⟩:=I.tuple hq;obtain⟨j,h1,h2,h3,h4,h5⟩:=wW he;obtain⟨w,ew,rw'⟩:=r.get h2;have hl:=r.length;have hn:=rM;have fin:EP X pins σ Q w s:=⟨z,H,I,rw',q⟩
 exact subscriptTail_builtinR (x:=w) pl.typeIs slot_tuple_getitem.lookup
  (getItem_tuple (j:=j) (Q:=λr s'=>r=w/\EP X pins σ Q r s') pl (by omega) (by omega) (by rw[size_toArray,<- hl];exact h1) (by simpa using ew) ⟨rfl,fin⟩) hs
theorem vM (its:List Value)(n j:Nat)(u:Value):Obj.mapSeq (·.setIfInBounds j u) { cls:=.type "list",data:=.seq its.toArray n }={ cls:=.type "list",data:=.seq (its.set j u).toArray n }:=by simp[Obj.mapSeq]
theorem aH.lst {pins:List (Addr×Obj)}{σ:St}{H:Hp}{s:Shared}{p:Addr}{xs:List V}(I:aH X pins σ H s)(h:H p=some (.lst xs)) :
  ∃(its:List Value) (n:Nat),bn xs its/\s.heap.get? p=some { cls:=.type "list",data:=.seq its.toArray n }/\xs.length<=sizeLine:=by
 obtain⟨z,its,n,r,e⟩:=I.hok p _ h;exact⟨its,n,r,e,z⟩
theorem aH.lstUpd {pins:List (Addr×Obj)}{σ:St}{H:Hp}{s:Shared}{p:Addr}{xs ys:List V}{its its':List Value}{n n':Nat}{f:Obj->Obj}(I:aH X pins σ H s)(h:H p=some (.lst xs))
  (ho:s.heap.get? p=some { cls:=.type "list",data:=.seq its.toArray n }) (hf:f { cls:=.type "list",data:=.seq its.toArray n }={ cls:=.type "list",data:=.seq its'.toArray n' }) (r:bn ys its') (hz:ys.length<=sizeLine) (t:Nat) :
  aH X pins σ (upd H p (.lst ys)) { s with heap:=s.heap.update p f,toks:=t }:=by
 have e:(s.heap.update p f).get? p=some { cls:=.type "list",data:=.seq its'.toArray n' }:=by rw[Heap.get?_update_self f ho (by rw[hf]<;>rfl),hf]
 refine I.write (x:=p) (e:=p) (by rw[h];trivial) (.inl rfl) (λb u hb q=>(Heap.get?_update_other _ _ (Ne.symm hb)).trans q) ⟨_,e⟩ ?_;exact⟨hz,its',n',r,e⟩
def Fl:V->V->V->Hp->(Hp->Prop)->Prop:=λo i v H Q=>∃p xs k j,o = .ref p/\i = .int k/\H p=some (.lst xs)/\Cd xs.length k=some j/\Q (upd H p (.lst (xs.set j v)))
theorem zP:E9 X Fl:=by
 intro pins s σ H o i v ov iv u Q I ro ri rv h;obtain⟨p,xs,k,j,rfl,rfl,hp,hj,q⟩:=h;cases ro;obtain⟨t,rfl⟩:=ri;obtain⟨its,n,r,ho,hz⟩:=I.lst hp;obtain⟨h1,h2,h3,h4⟩:=wV hj;have hl:=r.length;have hn:=rM;have I':aH X pins σ (upd H p (.lst (xs.set j v))) { s with heap:=s.heap.update p (Obj.mapSeq (·.setIfInBounds j u)) }:=I.lstUpd hp ho (vM its n j u) (r.set rv j) (by rw[length_set];exact hz) s.toks;by_cases h0:0<=k
 .have hk:k.toNat=j:=by rw[seqIndex_of h0 h4]at h1;exact Option.some.inj h1
  exact PySem.W.ki_setAt ho h0 (by omega) (by rw[size_toArray,<- hl];exact h4) (by rw[hk];exact⟨_,I',q⟩)
 .have hk:(k+(its.toArray.size:Int)).toNat=j:=by rw[seqIndex_neg (by omega) h3]at h1;rw[size_toArray,<- hl];exact Option.some.inj h1
  exact PySem.W.ki_setBack ho (by omega) (by rw[size_toArray,<- hl];exact h3) (by omega) (by rw[hk];exact⟨_,I',q⟩)
theorem rQ (lo hi:Option Int)(n:Nat):(sliceBounds lo hi none n).1=((HT.sIx n 0 lo:Nat):Int)/\(sliceBounds lo hi none n).2.1=((HT.sIx n n hi:Nat):Int)/\(sliceBounds lo hi none n).2.2=1:=by
 refine⟨?_,?_,rfl⟩
 .cases lo with
  |none=>simp[sliceBounds,HT.sIx]
  |some i=>
   simp only[sliceBounds,HT.sIx,Option.getD_none,show(1:Int)>0 by decide,if_true];by_cases h:i<0
   .simp only[h,if_true]<;>omega
   .simp only[h,if_false]<;>omega
 .cases hi with
  |none=>simp[sliceBounds,HT.sIx]
  |some i=>
   simp only[sliceBounds,HT.sIx,Option.getD_none,show(1:Int)>0 by decide,if_true];by_cases h:i<0
   .simp only[h,if_true]<;>omega
   .simp only[h,if_false]<;>omega
theorem pU (its:List Value)(lo hi:Option Int):slicePick its.toArray lo hi none=((its.drop (HT.sIx its.length 0 lo)).take (HT.sIx its.length its.length hi-HT.sIx its.length 0 lo)).toArray:=by obtain⟨h1,h2,h3⟩:=rQ lo hi its.toArray.size;unfold slicePick;rw[h1,h2,h3];simp only[sliceRange_one,pick_run,size_toArray]<;>rfl
def Fm (K:PySem.W.Frag):V->Option Int->Option Int->Hp->VK->Prop:=λx lo hi H Q=>∃a xs,x = .ref a/\aR K H a xs/\∀p,H p=none->Q (.ref p) (upd H p (.lst (nz xs lo hi)))
theorem rR:GP X (Fm X.K):=by intro pins s σ H x v vl vu lo hi sl Q I rx hs pl pu h;obtain⟨a,xs,rfl,hx,q⟩:=h;cases rx;obtain⟨its,r,ht,hz⟩:=I.list hx;have hlen:=r.length;refine⟨"list",_,slot_list_getitem.lookup,ht.isList.typeIs,?_⟩;refine wpAny_getItem_list_slice ht.isList hs pl pu .none (by simp) ?_ (by rw[size_toArray]<;>omega);rw[pU,<- hlen];refine⟨.ref s.heap.objs.size,_,I.laid (t':=s.toks) (o:=.lst (nz xs lo hi)) (λb ob q=>get?_push_of_some _ q) (Nat.le_refl _) ?_,rfl,q _ (I.hok.fresh (Nat.le_refl _))⟩;exact⟨le_trans (tZ xs lo hi) hz,_,0,(r.drop (HT.sIx xs.length 0 lo)).take (HT.sIx xs.length xs.length hi-HT.sIx xs.length 0 lo),get?_push_size _ rfl⟩
theorem ax:ij X (.builtin "len") (λxs H Q=>∃p ys,xs=[.ref p]/\(aR X.K H p ys\/eB X.K H p ys)/\Q (.int ys.length) H):=by
 intro pins s σ H xs us Q I r h;obtain⟨p,ys,rfl,hq,q⟩:=h;obtain⟨u,rfl,rx⟩:=tT r;cases rx;have hn:=rM;rcases hq with hq|hq
 .obtain⟨its,r',pl,hz⟩:=I.list hq;have hlen:=r'.length;exact Calls.call_len_list pl.isList (by simp only[size_toArray]<;>omega) ⟨.int ys.length,H,I.tok _,⟨s.toks+1,by rw[size_toArray,hlen]⟩,q⟩
 .obtain⟨its,r',pl,hz⟩:=I.tuple hq;have hlen:=r'.length;exact len_tuple pl (by simp only[size_toArray]<;>omega) ⟨.int ys.length,H,I.tok _,⟨s.toks+1,by rw[size_toArray,hlen]⟩,q⟩
def Gb (K:PySem.W.Frag)(T:String)(x:V)(H:Hp):Prop:=match x with
 |.str _=>T = "str"
 |.int _=>T = "int"
 |.ref p=>(T = "list"/\∃xs,aR K H p xs)\/(T = "tuple"/\∃o,K.lookup p=some o/\o.cls = .type "tuple"/\o.dict=none)\/
   (T = "dict"/\((∃kvs,H p=some (.dK kvs))\/∃kvs,H p=some (.dT kvs)))\/(T = "set"/\∃S n,H p=some (.set S n))
 |_=>False
theorem Eh {pins:List (Addr×Obj)}{σ:St}{H:Hp}{s:Shared}{T:String}{x:V}{v:Value}(I:aH X pins σ H s)(r:bI x v)(ty:Gb X.K T x H) :
  s.TypeIs v T/\∀a,v = .ref a->∃ob,s.heap.get? a=some ob/\ob.dict=none:=by
 cases x with
 |str z=>
  obtain⟨t,rfl⟩:=r;cases (show T = "str" from ty);exact⟨typeIs_str s z t,λ_ e=>nomatch e⟩
 |int i=>
  obtain⟨t,rfl⟩:=r;cases (show T = "int" from ty);exact⟨typeIs_int s i t,λ_ e=>nomatch e⟩
 |ref p=>
  cases r;rcases ty with⟨rfl,xs,hq⟩|⟨rfl,o,hk,hc,hd⟩|⟨rfl,hk⟩|⟨rfl,S,n,hk⟩
  .obtain⟨its,_,pl,_⟩:=I.list hq;refine⟨pl.isList.typeIs,λa e=>?_⟩;cases e;obtain⟨o,n,e,c,hd,_⟩:=pl;exact⟨o,e,hd⟩
  .refine⟨⟨o,I.kIn p o hk,hc⟩,λa e=>?_⟩;cases e;exact⟨o,I.kIn _ o hk,hd⟩
  .have z:∃o,s.heap.get? p=some o/\o.ExactDict:=by
    rcases hk with⟨kvs,hk⟩|⟨kvs,hk⟩
    .obtain⟨_,_,_,_,o,_,_,e,ex,_⟩:=I.hok p _ hk;exact⟨o,e,ex⟩
    .obtain⟨_,_,_,_,o,_,_,e,ex,_⟩:=I.hok p _ hk;exact⟨o,e,ex⟩
   obtain⟨o,e,ex⟩:=z;refine⟨⟨o,e,ex.1⟩,λa e2=>?_⟩;cases e2;exact⟨o,e,ex.2.1⟩
  .obtain⟨o,_,_,_,e,ex,_⟩:=I.hok p _ hk;refine⟨⟨o,e,ex.1⟩,λa e2=>?_⟩;cases e2;exact⟨o,e,ex.2.1⟩
 |_=>exact False.elim ty
def GR (K:PySem.W.Frag)(T:String)(r:V->List V->Hp->VK->Prop)(to:TE)(t:TA):TE:=λσ H Q=>to σ H λx H1=>Gb K T x H1/\t σ H1 λxs H2=>r x xs H2 Q
variable {o e:Expr}{es:List Expr}{to:TE}{t:TA}{name:Str}{apos cpos:Pos}{T id:String}{r:V->List V->Hp->VK->Prop}
theorem dz (pa:PlainAttrs T)(slot:Slot T name id)(hty:typeOf (.builtin id)=pure (.type "method_descriptor"))(hm:Go X id r)(ho:PE X o to)(ha:PA X (e::es) t)
  (hbase:attributeBase o name X.env (eval o X.env)=eval o X.env:=by rfl)
  (hfew:((backTo cpos (starEach (e::es) X.env)).all (λx=>!x.1)&&(backToKw cpos (keywordEach [] X.env)).all (λx=>x.1.isSome) && decide ((e::es).length+([]:List Keyword).length+(if ([]:List Keyword).isEmpty then 0 else 1)<30))=true:=by rfl)
  (hline:(apos.endLine==cpos.line)=true:=by rfl) (hs:starEach (e::es) X.env=(false,eval e X.env)::starEach es X.env:=by rfl) (hplain:(backTo cpos (starEach es X.env)).any (·.1)=false:=by rfl) :
  PE X (.Call (.Attribute o name apos) (e::es) [] cpos) (GR X.K T r to t):=by
 intro pins s σ H Q I h;refine wpAny_Call_method_late hbase hfew hline rfl (cx (ho pins s σ H _ I h) λv s1 ⟨x,H1,I1,r1,ty,q1⟩=>?_);obtain⟨h1,h2⟩:=Eh I1 r1 ty;refine⟨T,id,pa,slot,hty,h1,h2,?_⟩;have hA:=ha cpos pins s1 σ H1 _ I1 q1;rw[hs]at hA ⊢;refine Calls.callWith_builtin (by show(false||(backTo cpos (starEach es X.env)).any (·.1))=false;rw[hplain]<;>rfl) (Calls.evalArgs_plain ?_);exact cx hA λus s2 ⟨vs,H2,I2,r2,q2⟩=>hm pins s2 σ H2 x vs v us Q I2 r1 r2 q2
end
def GS (X:Cx)(id:String)(r:V->List V->Hp->VK->Prop):Prop:=∀(pins:List (Addr×Obj)) (s:Shared) (σ:St) (H:Hp) (x:V) (xs:List V) (v:Value) (us:List Value) (Q:VK),aH X pins σ H s->bI x v->bn xs us->r x xs H Q->
  wpAny (model X.prog X.w) X.A (call (.builtin id) (v::us)) (EP X pins σ Q) X.xe s
theorem bn.one:∀{x:V} {us:List Value},bn [x] us->∃u,us=[u]/\bI x u
 |_,_,.cons r .nil=>⟨_,rfl,r⟩
section
variable {X:Cx}{pins:List (Addr×Obj)}{σ:St}{H:Hp}{s:Shared}{l b:Addr}{xs ys zs:List V}
theorem aH.lset {its its':List Value}{n:Nat}{f:Array Value->Array Value}{t':Nat}(I:aH X pins σ H s)(hH:H l=some (.lst xs))
  (e:s.heap.get? l=some { cls:=.type "list",data:=.seq its.toArray n }) (hf:f its.toArray=its'.toArray) (hv:bn ys its') (hz:ys.length<=sizeLine) :
  aH X pins σ (upd H l (.lst ys)) { s with heap:=s.heap.update l (Obj.mapSeq f),toks:=t' }:=by
 have q:=PySem.IsL.update e f;rw[hf]at q;refine I.write (x:=l) (e:=l) (by rw[hH];exact trivial) (.inl rfl) (λb' u hb hu=>(Heap.get?_update_other s.heap (Obj.mapSeq f) (Ne.symm hb)).trans hu) ⟨_,q⟩ ?_;exact⟨hz,its',_,hv,q⟩
theorem aH.lnew {its:List Value}{t':Nat}(I:aH X pins σ H s)(hv:bn ys its)(hz:ys.length<=sizeLine) :
  aH X pins σ (upd H s.heap.objs.size (.lst ys)) { s with heap:=s.heap.push { cls:=.type "list",data:=.seq its.toArray },toks:=t' }:=
 I.laid (λ_ _ q=>get?_push_of_some _ q) (Nat.le_refl _) ⟨hz,its,0,hv,get?_push_size _ rfl⟩
theorem aH.fresh (I:aH X pins σ H s):H s.heap.objs.size=none:=I.hok.fresh (Nat.le_refl _)
theorem aH.lstM (I:aH X pins σ H s)(hH:H l=some (.lst xs)):xs.length<=sizeLine/\∃(its:List Value) (n:Nat),bn xs its/\xs.length=its.length/\s.heap.get? l=some { cls:=.type "list",data:=.seq its.toArray n }:=by obtain⟨z,its,n,r,e⟩:=I.hok l _ hH;exact⟨z,its,n,r,r.length,e⟩
theorem zQ {n:Nat}(h:n<=sizeLine):Builtin.List.listTooLong n=false:=by unfold Builtin.List.listTooLong;exact decide_eq_false (by omega)
end
section
variable {X:Cx}
def wX:V->List V->Hp->VK->Prop:=λx vs H Q=>∃l xs y,x = .ref l/\vs=[y]/\H l=some (.lst xs)/\xs.length<sizeLine/\Q .non (upd H l (.lst (xs++[y])))
theorem bZ:GS X "list.append" wX:=by intro pins s σ H x vs v us Q I rx rv h;obtain⟨l,xs,y,rfl,rfl,hH,hz,q⟩:=h;cases rx;obtain⟨u,rfl,ru⟩:=rv.one;obtain⟨z,its,n,r,hl,e⟩:=I.lstM hH;refine call_meets F.slot_list_append ⟨_,e,rfl⟩ F.entry_list_append (F.args_list_append_2 _ _) (PySem.list_append l its.toArray n u (by rw[size_toArray];omega)) ⟨e,?_⟩;refine⟨.non,_,I.lset (its':=its++[u]) hH e (by simp) (r.append (.cons ru .nil)) ?_,rfl,q⟩;rw[length_append,List.length_singleton];omega
def wY:V->List V->Hp->VK->Prop:=λx vs H Q=>∃l b xs zs,x = .ref l/\vs=[.ref b]/\H l=some (.lst xs)/\H b=some (.lst zs)/\xs.length+zs.length<=sizeLine/\Q .non (upd H l (.lst (xs++zs)))
theorem dR:GS X "list.extend" wY:=by
 intro pins s σ H x vs v us Q I rx rv h;obtain⟨l,b,xs,zs,rfl,rfl,hH,hB,hz,q⟩:=h;cases rx;obtain⟨u,rfl,ru⟩:=rv.one;cases ru;obtain⟨z,its,n,r,hl,e⟩:=I.lstM hH;obtain⟨z2,its2,n2,r2,hl2,e2⟩:=I.lstM hB;have hsz:its.toArray.size+its2.toArray.size<=sizeLine:=by rw[size_toArray,size_toArray];omega
 have hlong:¬(!its.toArray.isEmpty&&Builtin.List.listTooLong (its.toArray.size+its2.toArray.size))=true:=by rw[zQ hsz,Bool.and_false];exact Bool.false_ne_true
 refine call_meets F.slot_list_extend ⟨_,e,rfl⟩ F.entry_list_extend (F.args_list_extend_2 _ _)
  (AutoSeq1.list_extend_list_list_0 l its.toArray n b its2.toArray n2 hlong (by rw[size_toArray];omega) (by omega)) ⟨e,e2,?_⟩
 refine⟨.non,_,I.lset (its':=its++its2) hH e (by simp) (r.append r2) ?_,rfl,q⟩;rw[length_append];omega
def zR:R2:=λx y H Q=>∃l b xs zs,x = .ref l/\y = .ref b/\H l=some (.lst xs)/\H b=some (.lst zs)/\xs.length+zs.length<=sizeLine/\∀p,H p=none->Q (.ref p) (upd H p (.lst (xs++zs)))
theorem d9:lR X (binaryOp .Add) zR:=by
 intro pins s σ H x y v u Q I rx ry h;obtain⟨l,b,xs,zs,rfl,rfl,hH,hB,hz,q⟩:=h;cases rx;cases ry;obtain⟨z,its,n,r,hl,e⟩:=I.lstM hH;obtain⟨z2,its2,n2,r2,hl2,e2⟩:=I.lstM hB;refine PySem.P.add_list e e2 ?_ (by rw[size_toArray,size_toArray];omega);have ea:its.toArray++its2.toArray=(its++its2).toArray:=by simp
 rw[ea];exact⟨.ref _,_,I.lnew (t':=s.toks) (r.append r2) (by rw[length_append];omega),rfl,q _ I.fresh⟩
end
section
variable {prog:Program}{w:World}{A:Around}{E:Value->Shared->Prop}{s:Shared}
set_option maxRecDepth 100000 in
end
section
variable {X:Cx}
end
theorem bn.ints:∀{ns:List Int} {us:List Value},bn (ns.map V.int) us->IntsAre us ns
 |[],us,h=>by rw[map_nil]at h;cases h;exact IntsAre.nil
 |n::ns,us,h=>by
  rw[map_cons]at h;cases h with
  |cons r t=>
   obtain⟨k,rfl⟩:=r;exact IntsAre.cons n k (bn.ints t)
theorem bn.bls:∀{bs:List Bool} {us:List Value},bn (bs.map V.bl) us->us=bs.map Value.bool
 |[],us,h=>by
  rw[map_nil]at h;cases h
  rfl
 |b::bs,us,h=>by
  rw[map_cons]at h;cases h with
  |cons r t=>
   cases r;rw[bn.bls t,map_cons]
theorem bn.ref1 {a:Addr}{us:List Value}(r:bn [V.ref a] us):us=[Value.ref a]:=by
 cases r with
 |cons r t=>
  cases t;cases r
  rfl
section
variable {prog:Program}{w:World}{A:Around}{E:Value->Shared->Prop}{s:Shared}{l:Addr}{its:List Value}{ns:List Int}{Q:Value->Shared->Prop}
theorem Cg (hh:A.handled=none)(hl:s.heap.IsList l its.toArray)(hi:IntsAre its ns)
  (h:∀h' tk t',(∀b o,s.heap.get? b=some o->h'.get? b=some o)->Q (.int ns.sum t') { s with heap:=h',toks:=tk }):wpAny (model prog w) A (call (.builtin "sum") [.ref l]) Q E s:=by
 obtain⟨xs,e⟩:=hi.allInts.items;have hn:numsOf (intItems xs).toList=ns:=by rw[<- e];exact hi.numsOf
 rw[nums_intItems]at hn;rw[e]at hl;refine PySem.sum_intListG hh hl λh' tk t' hk=>?_;have:=h h' tk t' hk;rw[preSum_eq,take_of_length_le (by simp),hn];exact this
theorem Ch (hh:A.handled=none)(hl:s.heap.IsList l its.toArray)(hi:IntsAre its ns)(hne:0<ns.length)
  (h:∀h' tk M t',(∀b o,s.heap.get? b=some o->h'.get? b=some o)->M∈ns->(∀a,a∈ns->a<=M)->Q (.int M t') { s with heap:=h',toks:=tk }):wpAny (model prog w) A (call (.builtin "max") [.ref l]) Q E s:=by
 obtain⟨xs,e⟩:=hi.allInts.items;have hn:numsOf (intItems xs).toList=ns:=by rw[<- e];exact hi.numsOf
 rw[nums_intItems]at hn;subst hn;rw[e]at hl;have hsz:0<xs.size:=by simpa using hne
 refine PySem.max_intList hh hl hsz λv h' tk hv hk=>?_;obtain⟨t,rfl⟩:=intItems_at hv;obtain⟨h1,h2⟩:=argBest_gt (numAt xs) (xs.size-1);refine h h' tk _ t hk ?_ λa ha=>?_
 .rw[numAt_eq];exact PySem.getD_mem (by rw[length_map,length_toList];omega)
 .obtain⟨j,hj,rfl⟩:=mem_getD ha;rw[length_map,length_toList]at hj;rw[<- numAt_eq];exact h2 j (by omega)
theorem Ci (hh:A.handled=none)(hl:s.heap.IsList l its.toArray)(hi:IntsAre its ns)(hne:0<ns.length)
  (h:∀h' tk M t',(∀b o,s.heap.get? b=some o->h'.get? b=some o)->M∈ns->(∀a,a∈ns->M<=a)->Q (.int M t') { s with heap:=h',toks:=tk }):wpAny (model prog w) A (call (.builtin "min") [.ref l]) Q E s:=by
 obtain⟨xs,e⟩:=hi.allInts.items;have hn:numsOf (intItems xs).toList=ns:=by rw[<- e];exact hi.numsOf
 rw[nums_intItems]at hn;subst hn;rw[e]at hl;have hsz:0<xs.size:=by simpa using hne
 refine PySem.min_intList hh hl hsz λv h' tk hv hk=>?_;obtain⟨t,rfl⟩:=intItems_at hv;obtain⟨h1,h2⟩:=argBest_lt (numAt xs) (xs.size-1);refine h h' tk _ t hk ?_ λa ha=>?_
 .rw[numAt_eq];exact PySem.getD_mem (by rw[length_map,length_toList];omega)
 .obtain⟨j,hj,rfl⟩:=mem_getD ha;rw[length_map,length_toList]at hj;rw[<- numAt_eq];exact h2 j (by omega)
end
section
variable {X:Cx}
def Gp (K:PySem.W.Frag):List V->Hp->VK->Prop:=λvs H Q=>∃(a:Addr) (ns:List Int),vs=[V.ref a]/\aR K H a (ns.map V.int)/\Q (.int ns.sum) H
def Gq (K:PySem.W.Frag):List V->Hp->VK->Prop:=λvs H Q=>∃(a:Addr) (ns:List Int),vs=[V.ref a]/\aR K H a (ns.map V.int)/\0<ns.length/\∀m,m∈ns->(∀y,y∈ns->y<=m)->Q (.int m) H
def Gr (K:PySem.W.Frag):List V->Hp->VK->Prop:=λvs H Q=>∃(a:Addr) (ns:List Int),vs=[V.ref a]/\aR K H a (ns.map V.int)/\0<ns.length/\∀m,m∈ns->(∀y,y∈ns->m<=y)->Q (.int m) H
theorem Ei (hc:X.calm=true):ij X (.builtin "sum") (Gp X.K):=by intro pins s σ H vs us Q I r h;obtain⟨a,ns,rfl,hs,q⟩:=h;obtain⟨its,rv,hl,_⟩:=I.list hs;rw[bn.ref1 r];exact Cg (I.ok.hd hc) hl.isList rv.ints λh' tk t' hk=>⟨.int _,H,I.kept hk,⟨_,rfl⟩,q⟩
theorem Ej (hc:X.calm=true):ij X (.builtin "max") (Gq X.K):=by intro pins s σ H vs us Q I r h;obtain⟨a,ns,rfl,hs,hne,q⟩:=h;obtain⟨its,rv,hl,_⟩:=I.list hs;rw[bn.ref1 r];exact Ch (I.ok.hd hc) hl.isList rv.ints hne λh' tk m t' hk h1 h2=>⟨.int _,H,I.kept hk,⟨_,rfl⟩,q m h1 h2⟩
theorem zS (hc:X.calm=true):ij X (.builtin "min") (Gr X.K):=by intro pins s σ H vs us Q I r h;obtain⟨a,ns,rfl,hs,hne,q⟩:=h;obtain⟨its,rv,hl,_⟩:=I.list hs;rw[bn.ref1 r];exact Ci (I.ok.hd hc) hl.isList rv.ints hne λh' tk m t' hk h1 h2=>⟨.int _,H,I.kept hk,⟨_,rfl⟩,q m h1 h2⟩
end
section
variable {X:Cx}
end
section
variable {X:Cx}
end
theorem zT {prog:Program}{w:World}{A:Around}{E:Value->Shared->Prop}{s:Shared}{l:Addr}{items:Array Value}{Q:Value->Shared->Prop}(hl:s.heap.IsList l items)
  (h:∀s₂:Shared,s₂={ s with heap:=s.heap.push { cls:=.type "list_iterator",data:=.fields #[.ref l,.int 0 0] } }-> (s₂.heap.IsListIter s.heap.objs.size l 0/\s₂.heap.IsList l items)->l≠s.heap.objs.size->Q (.ref s.heap.objs.size) s₂):wpAny (model prog w) A (pyIter (.ref l)) Q E s:=by
 have hlt:l<s.heap.objs.size:=by obtain⟨_,e,_⟩:=hl;exact lt_size e
 exact wpAny_pyIter_list hl (h _ rfl ⟨⟨_,get?_push_size _ rfl,rfl,rfl⟩,hl.push _⟩ (ne_of_lt hlt))
theorem ua {prog:Program}{w:World}{A:Around}{bs:List Bool}{its:List Value}(e:its=bs.map Value.bool) :
  TruthOf prog w A (λi v=>its.toArray[i]?=some v) (λi=>bs.getD i false):=λi v s Q E hv hq=>by
 have hv':its[i]?=some v:=by simpa using hv
 rw[e,getElem?_map]at hv';obtain⟨b,hb,rfl⟩:=map_eq_some_iff.mp hv';have hg:bs.getD i false=b:=by rw[List.getD_eq_getElem?_getD,hb]<;>rfl
 have hq':Q (bs.getD i false) s:=hq;rw[hg]at hq';exact wpAny_truthy_bool hq'
theorem qA:∀bs:List Bool,(List.range bs.length).any (λi=>bs.getD i false)=bs.any id
 |[]=>rfl
 |b::bs=>by
  rw[length_cons,List.range_succ_eq_map,any_cons,List.any_map,any_cons,<- qA bs]
  all_goals rfl
section
variable {X:Cx}
def Gs (K:PySem.W.Frag):List V->Hp->VK->Prop:=λvs H Q=>∃(a:Addr) (bs:List Bool),vs=[V.ref a]/\aR K H a (bs.map V.bl)/\Q (.bl (bs.any id)) H
theorem Ek (hc:X.calm=true):ij X (.builtin "any") (Gs X.K):=by
 intro pins s σ H vs us Q I r h;obtain⟨a,bs,rfl,hs,q⟩:=h;obtain⟨its,rv,hl,_⟩:=I.list hs;rw[bn.ref1 r];have hb:=rv.bls;refine call_any_walk (zT hl.isList λs₂ e2 st hne=>?_);subst e2;refine⟨_,_,_,_,_,_,_,rfl,Walks.list (A:=X.A.in1) (I.ok.hd hc) _ a hne its.toArray,st,ua hb,λh' tk hk=>?_⟩;refine⟨.bl _,H,I.kept λb o eo=>hk b o (λhmem=>?_) (get?_push_of_some _ eo),?_,q⟩
 .rcases mem_cons.mp hmem with e1|hmem
  .exact absurd (e1▸lt_size eo) (lt_irrefl _)
  .cases hmem
 .show Value.bool _=Value.bool _;rw[<- qA,hb,size_toArray,length_map]
end
mutual
inductive Dp (K:PySem.W.Frag)(H:Hp):V->PyData->Prop
 |non:Dp K H .non .none
 |bl (b:Bool):Dp K H (.bl b) (.bool b)
 |int (i:Int):Dp K H (.int i) (.int i)
 |str (x:Str):Dp K H (.str x) (.str x)
 |lst {a:Addr} {xs:List V} {ds:List PyData}:aR K H a xs->oQ K H xs ds->Dp K H (.ref a) (.list ds)
 |tup {a:Addr} {xs:List V} {ds:List PyData}:eB K H a xs->oQ K H xs ds->Dp K H (.ref a) (.tuple ds)
inductive oQ (K:PySem.W.Frag)(H:Hp):List V->List PyData->Prop
 |nil:oQ K H [] []
 |cons {v:V} {vs:List V} {d:PyData} {ds:List PyData}:Dp K H v d->oQ K H vs ds->oQ K H (v::vs) (d::ds)
end
section
variable {X:Cx}{pins:List (Addr×Obj)}{σ:St}{H:Hp}{s:Shared}
mutual
theorem Dp.reads (I:aH X pins σ H s):∀(d:PyData) (v:V) (u:Value),Dp X.K H v d->bI v u->∃as,Reads s.heap u d as
 |.none,_,_,h,r=>by cases h;cases r;exact⟨_,Reads.none⟩
 |.bool b,_,_,h,r=>by cases h;cases r;exact⟨_,Reads.bool b⟩
 |.int i,_,_,h,r=>by cases h;obtain⟨t,rfl⟩:=r;exact⟨_,Reads.int i t⟩
 |.str x,_,_,h,r=>by cases h;obtain⟨t,rfl⟩:=r;exact⟨_,Reads.str x t⟩
 |.list ds,_,_,h,r=>by
  cases h with
  |lst hs ha=>
   cases r;obtain⟨its,rv,⟨o,n,ho,hc,_,hd⟩,_⟩:=I.list hs;obtain⟨as,hr⟩:=Dp.readsAll I ds _ its ha rv;exact⟨_,Reads.list ho hc hd hr⟩
 |.tuple ds,_,_,h,r=>by
  cases h with
  |tup hs ha=>
   cases r;obtain⟨its,rv,⟨o,ho,hc,n,hd⟩,_⟩:=I.tuple hs;obtain⟨as,hr⟩:=Dp.readsAll I ds _ its ha rv;exact⟨_,Reads.tuple ho hc hd hr⟩
 |.dict _,_,_,h,_=>by cases h
theorem Dp.readsAll (I:aH X pins σ H s):∀(ds:List PyData) (vs:List V) (us:List Value),oQ X.K H vs ds->bn vs us->∃as,ReadsAll s.heap us ds as
 |[],_,_,h,r=>by cases h;cases r;exact⟨_,ReadsAll.nil⟩
 |d::ds,_,_,h,r=>by
  cases h with
  |cons h1 h2=>
   cases r with
   |cons r1 r2=>
    obtain⟨as,q1⟩:=Dp.reads I d _ _ h1 r1;obtain⟨bs,q2⟩:=Dp.readsAll I ds _ _ h2 r2;exact⟨_,ReadsAll.cons q1 q2⟩
end
end
section
variable {X:Cx}
def Gu (K:PySem.W.Frag):R2:=λx y H Q=>∃d e,Dp K H x d/\Dp K H y e/\SeqAt.shaped d=true/\SeqAt.shaped e=true/\Q (.bl (!PyData.eqv d e)) H
theorem El (hu:X.A.units+64<cLine):lR X (compareOp .NotEq) (Gu X.K):=by intro pins s σ H x y v u Q I rx ry h;obtain⟨d,e,hd,he,sd,se,q⟩:=h;obtain⟨as,r1⟩:=Dp.reads I d x v hd rx;obtain⟨bs,r2⟩:=Dp.reads I e y u he ry;exact SeqAt.compareNe_shaped r1 r2 sd se hu ⟨.bl _,H,I,rfl,q⟩
end
abbrev zU (h:Heap)(c:Addr)(v:Option Value):Prop:=h.IsCell c v
def Gv (scope sc:Scope):Scope:={ scope with names:=scope.names.map λ(n,k)=>if (k==.free&&sc.kind==.function&&sc.names.lookup n==some .cell)then(n,.cell)else(n,k) }
def be (cells:List (Str×Addr)):List (Str×NameKind)->List (Str×Addr)->List (Str×Addr)
 |[],acc=>acc
 |(n,k)::r,acc=>if k==.free then be cells r ((n,(cells.lookup n).getD 0)::acc)else be cells r acc
theorem k9 (env:Env)(f:Str×NameKind->List (Str×Addr)->Sem (ForInStep (List (Str×Addr))))
  (hf:∀n k c,f (n,k) c=if k==.free then(do let a <- cellOf env n;pure (.yield ((n,a)::c)))else pure (.yield c)) :
  ∀(names:List (Str×NameKind)) (acc:List (Str×Addr)),(∀y∈names,y.2 = .free->∃c,env.cells.lookup y.1=some c)->forIn names acc f=pure (be env.cells names acc)
 |[],acc,_=>by rw[List.forIn_nil];rfl
 |(n,k)::r,acc,h=>by
  rw[List.forIn_cons,hf];have ih:=λacc=>k9 env f hf r acc λy hy=>h y (mem_cons_of_mem _ hy);unfold be;by_cases hk:(k==NameKind.free)=true
  .rw[if_pos hk,if_pos hk];obtain⟨c,hc⟩:=h (n,k) mem_cons_self (by simpa using hk);have e:cellOf env n=pure c:=by unfold cellOf;rw[hc]
   rw[e];have e2:(env.cells.lookup n).getD 0=c:=by rw[hc];rfl
   rw[e2];exact ih _
  .rw[if_neg hk,if_neg hk];exact ih _
theorem oR {scope:Scope}{env:Env}(h:∀y∈scope.names,y.2 = .free->∃c,env.cells.lookup y.1=some c):closureFor scope env=pure (be env.cells scope.names []):=by
 simp only[closureFor];rw[k9 env _ (λn k c=>rfl) scope.names [] h]
 rfl
theorem iL {α:Type}:∀{l:List (Str×α)} {n:Str} {c:α},(n,c)∈l->∃c',l.lookup n=some c'
 |(k,v)::r,n,c,h=>by
  rw[lookup_cons];cases hb:n==k with
  |true=>exact⟨_,rfl⟩
  |false=>
   rcases mem_cons.mp h with e|h
   .cases e;simp at hb
   .exact iL h
theorem fD {cells:List (Str×Addr)}:∀{names:List (Str×NameKind)} {acc:List (Str×Addr)} {n:Str} {c:Addr},(n,c)∈be cells names acc->(n,c)∈acc\/((n,.free)∈names/\c=(cells.lookup n).getD 0)
 |[],_,_,_,h=>.inl h
 |(m,k)::r,acc,n,c,h=>by
  unfold be at h;split at h
  .rename_i hk;have hk:k = .free:=by simpa using hk
   rcases fD h with h|⟨h1,h2⟩
   .rcases mem_cons.mp h with e|h
    .cases e;exact .inr ⟨hk▸mem_cons_self,rfl⟩
    .exact .inl h
   .exact .inr ⟨mem_cons_of_mem _ h1,h2⟩
  .rcases fD h with h|⟨h1,h2⟩
   .exact .inl h
   .exact .inr ⟨mem_cons_of_mem _ h1,h2⟩
theorem jw {cells:List (Str×Addr)}:∀{names:List (Str×NameKind)} {acc:List (Str×Addr)} {p:Str×Addr},p∈acc->p∈be cells names acc
 |[],_,_,h=>h
 |(m,k)::r,acc,p,h=>by
  unfold be;split
  .exact jw (mem_cons_of_mem _ h)
  .exact jw h
theorem gM {cells:List (Str×Addr)}:∀{names:List (Str×NameKind)} {acc:List (Str×Addr)} {n:Str},(n,.free)∈names->(n,(cells.lookup n).getD 0)∈be cells names acc
 |(m,k)::r,acc,n,h=>by
  unfold be;rcases mem_cons.mp h with e|h
  .cases e;exact jw mem_cons_self
  .split
   .exact gM h
   .exact gM h
theorem ik:∀{names:List (Str×NameKind)} {h:Heap} {acc:List (Str×Addr)} {x:Str} {c:Addr},(x,c)∈cellsFrom h.objs.size names acc->
  (x,c)∈acc\/((x,.cell)∈names/\h.objs.size<=c/\zU (pushCells h names) c none)
 |[],_,_,_,_,h=>.inl h
 |(n,k)::r,h,acc,x,c,hm=>by
  unfold cellsFrom at hm;unfold pushCells;split at hm
  .rename_i hk;rw[if_pos hk];have hk:k = .cell:=by simpa using hk
   rw[<- size_push h { cls:=.type "cell",data:=.cell none }]at hm;rcases ik hm with hm|⟨h1,h2,h3⟩
   .rcases mem_cons.mp hm with e|hm
    .cases e;exact .inr ⟨hk▸mem_cons_self,Nat.le_refl _,_,pushCells_keeps r _ _ _ (get?_push_size _ rfl),rfl⟩
    .exact .inl hm
   .rw[size_push]at h2;exact .inr ⟨mem_cons_of_mem _ h1,Nat.le_of_succ_le h2,h3⟩
  .rename_i hk;rw[if_neg hk];rcases ik hm with hm|⟨h1,h2,h3⟩
   .exact .inl hm
   .exact .inr ⟨mem_cons_of_mem _ h1,h2,h3⟩
theorem jV:∀{names:List (Str×NameKind)} {n:Nat} {acc:List (Str×Addr)} {p:Str×Addr},p∈acc->p∈cellsFrom n names acc
 |[],_,_,_,h=>h
 |(m,k)::r,n,acc,p,h=>by
  unfold cellsFrom;split
  .exact jV (mem_cons_of_mem _ h)
  .exact jV h
theorem l7:∀{names:List (Str×NameKind)} {n:Nat} {acc:List (Str×Addr)} {x:Str},(x,.cell)∈names->∃c,(x,c)∈cellsFrom n names acc
 |(m,k)::r,n,acc,x,h=>by
  unfold cellsFrom;rcases mem_cons.mp h with e|h
  .cases e;exact⟨n,jV mem_cons_self⟩
  .split
   .exact l7 h
   .exact l7 h
theorem l8:∀{names:List (Str×NameKind)} {h:Heap} {acc:List (Str×Addr)} {x y:Str} {c:Addr},(∀p∈acc,p.2<h.objs.size)->(∀x y c,(x,c)∈acc->(y,c)∈acc->x=y)->
  (x,c)∈cellsFrom h.objs.size names acc->(y,c)∈cellsFrom h.objs.size names acc->x=y
 |[],_,_,_,_,_,_,hi,h1,h2=>hi _ _ _ h1 h2
 |(n,k)::r,h,acc,x,y,c,hl,hi,h1,h2=>by
  unfold cellsFrom at h1 h2;split at h1
  .rename_i hk;rw[if_pos hk]at h2;rw[<- size_push h { cls:=.type "cell",data:=.cell none }]at h1 h2;refine l8 (h:=h.push _) (λp hp=>?_) (λx y c a b=>?_) h1 h2
   .rw[size_push];rcases mem_cons.mp hp with rfl|hp
    .exact lt_succ_self _
    .exact Nat.lt_succ_of_lt (hl p hp)
   .rcases mem_cons.mp a with e|a<;>rcases mem_cons.mp b with e'|b
    .cases e;cases e';rfl
    .cases e;exact absurd (hl _ b) (lt_irrefl _)
    .cases e';exact absurd (hl _ a) (lt_irrefl _)
    .exact hi _ _ _ a b
  .rename_i hk;rw[if_neg hk]at h2;exact l8 hl hi h1 h2
theorem ub {M:Model}{A:Around}{E:Value->Shared->Prop}{s:Shared}{scope:Scope}{globals:Addr}{closure:List (Str×Addr)}{qual:Str}{func:Option Addr}{code:Value}{around:Env}{builtins:Addr}{Q:Env->Shared->Prop}
  (h:Q (newEnv scope s.heap.objs.size globals (cellsFrom (s.heap.objs.size+1) scope.names closure) qual func code (some around) builtins) { s with heap:=pushCells (s.heap.push { cls:=.type "dict",data:=.dict #[] }) scope.names }) :
  wpAny M A (newFunctionEnv scope globals closure [] qual func code (some around) builtins) Q E s:=by
 simp only[newFunctionEnv,Option.isSome_some,if_true];refine wpAny_bind (wpAny_alloc ?_);refine wpAny_bind (wpAny_layCells _ (λn k c=>rfl) scope.names closure _ _ ?_);rw[show({ s with heap:=s.heap.push { cls:=.type "dict",data:=.dict #[] } }:Shared).heap.objs.size=s.heap.objs.size+1 from size_push ..];rw[List.forIn_nil];exact wpAny_bind (wpAny_pure (wpAny_pure h))
theorem jx {sc:Scope}:∀{names:List (Str×NameKind)} {x:Str} {k:NameKind},
  (names.map λ(n,k)=>if (k==NameKind.free&&sc.kind==.function&&sc.names.lookup n==some .cell)then(n,NameKind.cell)else(n,k)).lookup x=some k->
  ∃k',names.lookup x=some k'/\(k=k'\/(k' = .free/\k = .cell))
 |[],_,_,h=>by simp at h
 |(n,k₀)::r,x,k,h=>by
  have ih:=@jx sc r x k;have h':List.lookup x ((if (k₀==NameKind.free&&sc.kind==.function&&sc.names.lookup n==some .cell)=true then(n,NameKind.cell)else(n,k₀))::(r.map _))=some k:=h;cases hx:x==n with
  |true=>
   simp only[lookup_cons,hx];by_cases hc:(k₀==NameKind.free&&sc.kind==.function&&sc.names.lookup n==some .cell)=true
   .rw[if_pos hc]at h';simp only[lookup_cons,hx]at h';cases h';simp only[and_eq_true,beq_iff_eq]at hc;exact⟨k₀,rfl,.inr ⟨hc.1.1,rfl⟩⟩
   .rw[if_neg hc]at h';simp only[lookup_cons,hx]at h';cases h';exact⟨_,rfl,.inl rfl⟩
  |false=>
   simp only[lookup_cons,hx];by_cases hc:(k₀==NameKind.free&&sc.kind==.function&&sc.names.lookup n==some .cell)=true
   .rw[if_pos hc]at h';simp only[lookup_cons,hx]at h';exact ih h'
   .rw[if_neg hc]at h';simp only[lookup_cons,hx]at h';exact ih h'
structure uc (N:List Str)(sc scope:Scope)(own:List (Str×Nat)):Prop where
 kind:scope.kind = .function
 uniq:∀y∈scope.names,scope.names.lookup y.1=some y.2
 ix:∀p∈own,N[p.2]?=some p.1
 free:∀y∈scope.names,y.2 = .free->sc.names.lookup y.1=some .cell\/sc.names.lookup y.1=some .free
 own:∀y∈scope.names,y.2 = .local\/y.2 = .cell->y.1∈own.map (·.1)\/y.1∉N
def eW (σ:St):List Nat->St
 |[]=>σ
 |v::vs=>(eW σ vs).set v none
theorem jy (σ:St):∀vs:List Nat,(eW σ vs).length=σ.length
 |[]=>rfl
 |v::vs=>by unfold eW;rw[length_set,jy σ vs]
theorem mf {σ:St}{i:Nat}{x:V}:∀{vs:List Nat},(eW σ vs)[i]?=some (some x)->σ[i]?=some (some x)/\i∉vs
 |[],h=>⟨h,by simp⟩
 |v::vs,h=>by
  unfold eW at h;by_cases hi:v=i
  .subst hi;by_cases hv:v<(eW σ vs).length
   .rw[List.getElem?_set_self hv]at h;cases h
   .rw[List.getElem?_eq_none (by simpa using hv)]at h;cases h
  .rw[List.getElem?_set_ne hi]at h;obtain⟨h1,h2⟩:=mf h;exact⟨h1,by simp only[mem_cons,not_or];exact⟨λe=>hi e.symm,h2⟩⟩
abbrev Cx.blk (X:Cx)(s:Shared)(H:Hp)(scope:Scope)(cenv:Env)(fp:List Addr):Cx:={ X with s_0:=s,H_0:=H,env:=cenv,outer:=X.stack,ex:=fp,fn:=λx=>scope.names.lookup x==some .cell,pn:=[],xe:=λ_ _=>False }
section
variable {X:Cx}{pins:List (Addr×Obj)}{σ:St}{H:Hp}{s:Shared}
theorem ud {scope:Scope}{own:List (Str×Nat)}{fp:List Addr}(I:aH X pins σ H s)(ok:uc X.N X.env.scope scope own)(hN:X.N.Nodup)(hfp:∀b∈fp,gn X pins H b/\b<s.heap.objs.size) :
  aH (X.blk s H scope (compEnvC scope (cellsFrom (s.heap.objs.size+1) scope.names (be X.env.cells scope.names [])) s.heap.objs.size X.env) fp) [] (eW σ (own.map (·.2))) H { s with heap:=pushCells (s.heap.push { cls:=.type "dict",data:=.dict #[] }) scope.names }:=by
 have hfree:∀y∈scope.names,y.2 = .free->∃c,X.env.cells.lookup y.1=some c:=λy hy e=>by
  rcases ok.free y hy e with k|k
  .exact I.ok.has _ (.inl k)
  .exact I.ok.has _ (.inr k)
 generalize hcenv:compEnvC scope (cellsFrom (s.heap.objs.size+1) scope.names (be X.env.cells scope.names [])) s.heap.objs.size X.env=cenv;have kp:∀b o,s.heap.get? b=some o->(pushCells (s.heap.push { cls:=.type "dict",data:=.dict #[] }) scope.names).get? b=some o:=λb o e=>pushCells_keeps _ _ _ _ (get?_push_of_some _ e);have hL:cenv.locals=s.heap.objs.size:=by rw[<- hcenv];rfl
 have hcl:cenv.cells=cellsFrom (s.heap.objs.size+1) scope.names (be X.env.cells scope.names []):=by rw[<- hcenv];rfl
 have hsc:cenv.scope=Gv scope X.env.scope:=by rw[<- hcenv];rfl
 rw[<- size_push s.heap { cls:=.type "dict",data:=.dict #[] }]at hcl;have cm:∀{y c},(y,c)∈be X.env.cells scope.names []->X.env.cells.lookup y=some c/\c<s.heap.objs.size:=λ{y c} hm=>by
  rcases fD hm with hm|⟨h1,rfl⟩
  .cases hm
  .obtain⟨c,hc⟩:=hfree _ h1 rfl;rw[hc];obtain⟨w,z⟩:=I.cell _ _ hc;exact⟨rfl,z.lt⟩
 have mem:∀{y c},cenv.cells.lookup y=some c->(X.env.cells.lookup y=some c/\c<s.heap.objs.size)\/(s.heap.objs.size+1<=c/\zU (pushCells (s.heap.push { cls:=.type "dict",data:=.dict #[] }) scope.names) c none):=λ{y c} e=>by
  rw[hcl]at e;rcases ik (PySem.mem_of_lookup e)with hm|⟨_,h2,h3⟩
  .exact .inl (cm hm)
  .rw[size_push]at h2;exact .inr ⟨h2,h3⟩
 have look:∀{y},scope.names.lookup y=some .free->∃c,cenv.cells.lookup y=some c/\X.env.cells.lookup y=some c:=λ{y} hl=>by
  have hy:(y,NameKind.free)∈scope.names:=PySem.mem_of_lookup hl;obtain⟨c',e'⟩:=iL (jV (names:=scope.names) (n:=(s.heap.push { cls:=.type "dict",data:=.dict #[] }).objs.size) (gM (cells:=X.env.cells) (acc:=[]) hy));rw[<- hcl]at e';refine⟨c',e',?_⟩;rw[hcl]at e';rcases ik (PySem.mem_of_lookup e')with hm|⟨h1,_,_⟩
  .exact(cm hm).1
  .have:=ok.uniq _ h1;rw[hl]at this;cases this
 have okB:(X.blk s H scope cenv fp).Ok:=by
  refine⟨I.ok.mod,by show cenv.scope.kind=_;rw[hsc];exact ok.kind,by show cenv.globals=_;rw[<- hcenv];exact I.ok.glob,by show cenv.builtins=_;rw[<- hcenv];exact I.ok.blt,by show s.heap.objs.size<=cenv.locals;rw[hL];exact Nat.le_refl _,
   λy z c e1 e2=>?_,λy hy=>?_,λy c z e=>?_,I.ok.hd,I.ok.frames,.inl rfl,λb hb=>⟨?_,λy c e z=>?_⟩,I.bs,le_trans I.ok.bsz I.sz,λb o e hb=>?_,λb hb z=>?_,I.stack,I.stkFree⟩
  .have e1:cenv.cells.lookup y=some c:=e1;have e2:cenv.cells.lookup z=some c:=e2;rw[hcl]at e1 e2;refine l8 (λp hp=>?_) (λy z c a b=>I.ok.inj y z c (cm a).1 (cm b).1) (PySem.mem_of_lookup e1) (PySem.mem_of_lookup e2);rw[size_push];exact Nat.lt_succ_of_lt (cm (y:=p.1) (c:=p.2) hp).2
  .show∃c,cenv.cells.lookup y=some c;have key:∀k,cenv.kindOf y=some k->(k = .cell\/k = .free)->∃c,cenv.cells.lookup y=some c:=λk hk hk'=>by
    unfold Env.kindOf at hk;rw[hsc]at hk;obtain⟨k',e,r⟩:=jx hk;have:k' = .cell\/k' = .free:=by
     rcases r with rfl|⟨rfl,_⟩
     .exact hk'
     .exact .inr rfl
    rcases this with rfl|rfl
    .obtain⟨c,hm⟩:=l7 (n:=(s.heap.push { cls:=.type "dict",data:=.dict #[] }).objs.size) (acc:=be X.env.cells scope.names []) (PySem.mem_of_lookup e);obtain⟨c',e'⟩:=iL hm;exact⟨c',by rw[hcl];exact e'⟩
    .obtain⟨c,h1,_⟩:=look e;exact⟨c,h1⟩
   rcases hy with hy|hy
   .exact key _ hy (.inl rfl)
   .exact key _ hy (.inr rfl)
  .have z:(scope.names.lookup y==some NameKind.cell)=true:=z;have z:scope.names.lookup y=some .cell:=by simpa using z
   have e:cenv.cells.lookup y=some c:=e;rw[hcl]at e;rcases ik (PySem.mem_of_lookup e)with hm|⟨_,h2,_⟩
   .rcases fD hm with hm|⟨h1,_⟩
    .cases hm
    .have q:=ok.uniq _ h1;rw[z]at q;cases q
   .rw[size_push]at h2;exact Nat.le_of_succ_le h2
  .show b≠cenv.locals;rw[hL];exact ne_of_lt (hfp b hb).2
  .have e:cenv.cells.lookup y=some c:=e;rcases mem e with⟨h1,_⟩|⟨h1,_⟩
   .exact(hfp b hb).1.2.2.2.2.1 y c h1 z
   .have h2:s.heap.objs.size+1<=b:=by rw[<- z];exact h1
    exact absurd (lt_of_lt_of_le (hfp b hb).2 (Nat.le_of_succ_le h2)) (lt_irrefl _)
  .rcases(hfp b hb).1.2.2.2.1 with z|z
   .exact I.ok.noex b o e z
   .exact absurd (lt_of_lt_of_le (lt_size e) (le_trans I.ok.bsz z)) (lt_irrefl _)
  .rcases mem_cons.mp (I.stkSub b z)with z|z
   .exact(hfp b hb).1.2.1 z
   .exact(hfp b hb).1.2.2.1 z
 refine⟨okB,rfl,I.bare,Un.kept kp,⟨λ_=>none,?_,λi y av e1 e2 e3=>?_⟩,λy c e=>?_,?_,λy c e=>?_,λp hp=>?_,I.hok.kept kp,by rw[jy];exact I.len⟩
 .show Ns _ cenv.locals _;rw[hL];exact Ns.keeps (Ns.new ..) λb o e=>pushCells_keeps _ _ _ _ e
 .obtain⟨e2,hne⟩:=mf e2;have hfr:scope.names.lookup y=some .free/\(cenv.kindOf y=some .cell\/cenv.kindOf y=some .free):=by
   have key:∀k,cenv.scope.names.lookup y=some k->k = .local\/k = .cell\/k = .free->scope.names.lookup y=some .free/\(cenv.kindOf y=some .cell\/cenv.kindOf y=some .free):=λk hk hk'=>by
    have hk0:=hk;rw[hsc]at hk;obtain⟨k',e,r⟩:=jx hk;have no:¬(k' = .local\/k' = .cell):=λhh=>by
     rcases ok.own _ (PySem.mem_of_lookup e) hh with e'|e'
     .obtain⟨p,hp,hpy⟩:=mem_map.mp e';have e3:=ok.ix p hp;have:p.1=y:=hpy;rw[this]at e3;exact hne (mem_map.mpr ⟨p,hp,kY hN e3 e1⟩)
     .exact e' (mem_of_getElem? e1)
    rcases r with rfl|⟨rfl,rfl⟩
    .rcases hk' with rfl|rfl|rfl
     .exact absurd (.inl rfl) no
     .exact absurd (.inr rfl) no
     .exact⟨e,.inr hk0⟩
    .exact⟨e,.inl hk0⟩
   have e3:D5 cenv.scope y:=e3;rcases e3 with e3|e3|e3
   .exact key _ e3 (.inl rfl)
   .exact key _ e3 (.inr (.inl rfl))
   .exact key _ e3 (.inr (.inr rfl))
  obtain⟨m,hn,hl⟩:=I.loc;have hvis:D5 X.env.scope y:=(ok.free _ (PySem.mem_of_lookup hfr.1) rfl).elim (λk=>.inr (.inl k)) (λk=>.inr (.inr k));obtain⟨w,r,q⟩:=hl i y av e1 e2 hvis;refine⟨w,r,.inr ⟨hfr.2,?_⟩⟩;obtain⟨c,h1,h2⟩:=look hfr.1;rcases q with⟨k,_⟩|⟨_,c',e',z⟩
  .have k:X.env.scope.names.lookup y=some .local:=k;rcases ok.free _ (PySem.mem_of_lookup hfr.1) rfl with k'|k'<;>rw[show X.env.scope.names.lookup y=_ from k']at k<;>cases k
  .rw[h2]at e';cases e';exact⟨c,h1,z.keeps kp⟩
 .have e:cenv.cells.lookup y=some c:=e;rcases mem e with⟨h1,_⟩|⟨_,z⟩
  .obtain⟨w,z⟩:=I.cell y c h1;exact⟨w,z.keeps kp⟩
  .exact⟨_,z⟩
 .show H cenv.locals=none;rw[hL];exact I.hok.fresh (Nat.le_refl _)
 .have e:cenv.cells.lookup y=some c:=e;rcases mem e with⟨h1,_⟩|⟨h1,_⟩
  .exact I.freeC y c h1
  .exact I.hok.fresh (Nat.le_of_succ_le h1)
 .exact absurd (show p∈([]:List (Addr×Obj))++[]from hp) (by simp)
theorem Em {E:Value->Shared->Prop}{D:Addr}{xs:List V}{y:V}{v:Value}{Q:Value->Shared->Prop}(I:aH X pins σ H s)(hD:H D=some (.lst xs))(hz:xs.length<sizeLine)(r:bI y v)
  (h:∀s',aH X pins σ (upd H D (.lst (xs++[y]))) s'->Q .none s'):wpAny (model X.prog X.w) X.A (call (.builtin "list.append") [.ref D,v]) Q E s:=by
 obtain⟨hz',its,n,ri,e⟩:=I.hok D _ hD;have hl:=ri.length;refine append_at (hsz:=by rw[size_toArray];omega) e λh' sb ho'=>?_;refine h { s with heap:=h' } (I.write (t':=s.toks) (by rw[hD];trivial) (.inl rfl) (λb u hb q=>(sb.2 b hb).trans q) ⟨_,ho'⟩ ⟨by rw[length_append];exact hz,its++[v],n+1,ri.append (.cons r .nil),?_⟩);rw[ho'];simp
def Fo (X:Cx)(ifs:List Expr)(t:TT):Prop:=∀(pins:List (Addr×Obj)) (s:Shared) (σ:St) (H:Hp) (Q:Bool->Hp->Prop),aH X pins σ H s->t σ H Q->
  wpAny (model X.prog X.w) X.A (forIn ifs true λc r=>if r=true then do let ok <- isTrue c X.env (eval c X.env);pure (ForInStep.yield ok)else pure (ForInStep.yield r)) (TP X pins σ Q) X.xe s
def Fp:TT:=λ_ H Q=>Q true H
theorem eE:Fo X [] Fp:=λ_ _ _ H _ I h=>wpAny_tests_nil ⟨H,I,h⟩
theorem jW {c:Expr}{t:TT}(h:PT X c t):Fo X [c] t:=λpins s σ H Q I hw=>wpAny_tests_one (h pins s σ H Q I hw)
end
theorem yh {α:Type}{t:Sem α}{Q Q':α->Shared->Prop}{M:Model}{A:Around}{E:Value->Shared->Prop}{s:Shared}(h:wpAny M A t Q (λ_ _=>False) s)(hQ:∀a s,Q a s->Q' a s):wpAny M A t Q' E s:=wpAny_mono h hQ λ_ _ z=>False.elim z
theorem rS {prog:Program}{w:World}{A:Around}{R:Result->Shared->Prop}{s:Shared}{elt target iter:Expr}{ifs:List Expr}{scope:Scope}{pos:Pos}{it acc:Value}{env:Env}(I:Nat->Shared->Prop)
  (turn:∀n s,I n s->wpAny (model prog w) A (pyNext it) (λr s₁=>match r with|none=>R (.ok .next) s₁|some v=>wpAny (model prog w) A (letOwnedTupleGo target it v) (λ_ s₁'=>wpAny (model prog w) A (assign target env v) (λ_ s₂=>wpAny (model prog w) A (forIn ifs true λc r=>if r=true then do let ok <- isTrue c env (eval c env);pure (ForInStep.yield ok)else pure (ForInStep.yield r)) (λok s₃=>if ok=true then wpAny (model prog w) A (eval elt env) (λx s₄=>wpAny (model prog w) A (call (.builtin "list.append") [acc,x]) (λ_ s₅=>∃m,m<n/\I m s₅) (notedBy (model prog w) A env λe s'=>R (.error e) s') s₄) (notedBy (model prog w) A env λe s'=>R (.error e) s') s₃ else∃m,m<n/\I m s₃) (notedBy (model prog w) A env λe s'=>R (.error e) s') s₂) (notedBy (model prog w) A env λe s'=>R (.error e) s') s₁') (notedBy (model prog w) A env λe s'=>R (.error e) s') s₁) (notedBy (model prog w) A env λe s'=>R (.error e) s') s)
  (n:Nat) (h:I n s) :
  codeAny (model prog w) A (.compLoop (.ListComp elt [⟨target,iter,ifs,0⟩] scope pos) 0 it acc env) R s:=by
 refine codeAny_loop rfl I (λn s hI=>?_) n h;show wpAny _ A ((compTurn (.ListComp elt [⟨target,iter,ifs,0⟩] scope pos) 0 it acc env).onRaise (λx=>do noteFrame x env;theTreesLotGoes x)) _ _ s;refine wpAny_noted ?_;rw[compTurn_list];refine wpAny_bind (wpAny_standAt (wpAny_bind (wpAny_mono (turn n s hI) (λr s₁ h₁=>?_) λ_ _ h'=>h')));cases r with
 |none=>exact wpAny_pure h₁
 |some v=>
  refine wpAny_bind (wpAny_mono h₁ (λ_ s₁' h₁'=>?_) λ_ _ h'=>h');refine wpAny_bind (wpAny_mono h₁' (λ_ s₂ h₂=>wpAny_bind (wpAny_mono h₂ (λok s₃ h₃=>?_) λ_ _ h'=>h')) λ_ _ h'=>h');cases ok with
  |false=>exact wpAny_pure ⟨rfl,h₃⟩
  |true=>
   exact wpAny_bind (wpAny_bind (wpAny_mono h₃ (λx s₄ h₄=>wpAny_bind (wpAny_mono h₄ (λ_ s₅ h₅=>wpAny_pure (wpAny_pure ⟨rfl,h₅⟩)) λ_ _ h'=>h')) λ_ _ h'=>h'))
section
variable {X:Cx}
def E3 (wi:TI)(g:TG)(tt:TT)(te:TE)(vs:List Nat):TE:=λσ H Q=>wi σ H λJ H1=>∀D,H1 D=none->∃W:Nat->Nat->Hp->Prop,(∃m,W 0 m (upd H1 D (.lst [])))/\∀i m H,W i m H->
 (J.stop i H/\Q (.ref D) H)\/(J.go i H/\∃Nx:Hp->Prop,(∀H',Nx H'->∃m',m'<m/\W (i+1) m' H')/\∀x H',J.yld i H x H'->g x (eW σ vs) H' λσ2 H2=>eW σ2 vs=eW σ vs/\tt σ2 H2 λb H3=>if b=true then te σ2 H3 λy H4=>∃acc,H4 D=some (.lst acc)/\acc.length<sizeLine/\Nx (upd H4 D (.lst (acc++[y])))else Nx H3)
theorem wZ {pins:List (Addr×Obj)}{s:Shared}{σ:St}{H:Hp}{Q:VK}{elt tg iter:Expr}{ifs:List Expr}{scope:Scope}{own:List (Str×Nat)}{pos pos':Pos}{wi:TI}{g:TG}{tt:TT}{te:TE}{use:Option (Value->Sem Unit)}{Qf:Value->Shared->Prop}
  (hc:X.calm=true) (hN:X.N.Nodup) (I:aH X pins σ H s) (hi:PI X tg iter wi) (ok:uc X.N X.env.scope scope own)
  (hg:∀(s:Shared) (H:Hp) (C:Addr) (cl:List (Str×Addr)) (fp:List Addr),PG (X.blk s H scope (compEnvC scope cl C X.env) fp) tg g) (ht:∀(s:Shared) (H:Hp) (C:Addr) (cl:List (Str×Addr)) (fp:List Addr),Fo (X.blk s H scope (compEnvC scope cl C X.env) fp) ifs tt)
  (he:∀(s:Shared) (H:Hp) (C:Addr) (cl:List (Str×Addr)) (fp:List Addr),PE (X.blk s H scope (compEnvC scope cl C X.env) fp) elt te) (hs:∀x,foldedSetIterable iter X.env x=pure x)
  (h:E3 wi g tt te (own.map (·.2)) σ H Q)
  (hRR:∀D C s' m H',aH X pins σ H' s'->Q (.ref D) H'->s'.heap.Ns C m->gn X pins H' C->compPost (model X.prog X.w) X.A X.xe use Qf (.ref D) C (.ok .next) s') :
  wpAny (model X.prog X.w) X.A (comprehension (.ListComp elt [⟨tg,iter,ifs,0⟩] scope pos) scope X.env pos' (newList []) false (eval iter X.env) use) Qf X.xe s:=by
 have hfree:∀y∈scope.names,y.2 = .free->∃c,X.env.cells.lookup y.1=some c:=λy hy e=>by
  rcases ok.free y hy e with k|k
  .exact I.ok.has _ (.inl k)
  .exact I.ok.has _ (.inr k)
 refine wpAny_comprehension_free (use:=use) rfl hs (oR hfree) ok.kind (λy hy e=>by rw[ok.uniq y hy,e])
  (cx (hi pins s σ H _ I h) λxv s1 hx=>cx hx λitv s2 h2=>?_)
 obtain⟨it,fp,tn,J,H2,e,I2,T,st2,f2,q⟩:=h2;subst e;refine wpAny_newObj_type (ub ?_) (by show 0<=sizeLine;decide);generalize hD:s2.heap.objs.size=D;have hDn:H2 D=none:=I2.hok.fresh (le_of_eq hD);obtain⟨W,⟨m0,w0⟩,turn⟩:=q D hDn;generalize hs3:({ s2 with heap:=s2.heap.push { cls:=.type "list",data:=.seq ([]:List Value).toArray } }:Shared)=s3;have I3:aH X pins σ (upd H2 D (.lst [])) s3:=by rw[<- hs3];refine I2.laid (t':=s2.toks) (λb o e=>get?_push_of_some _ e) (le_of_eq hD) ⟨zero_le _,[],0,.nil,?_⟩;rw[<- hD];exact get?_push_size _ rfl
 have h3:s3.heap=s2.heap.push { cls:=.type "list",data:=.seq ([]:List Value).toArray }:=by rw[<- hs3]
 have sz:∀b∈fp,b<s2.heap.objs.size:=λb hb=>by obtain⟨o,e,_⟩:=T.obj _ _ st2 b hb;exact lt_size e
 have f3:∀b∈fp,gn X pins (upd H2 D (.lst [])) b/\b<s3.heap.objs.size:=λb hb=>by have hlt:=sz b hb;refine⟨⟨?_,(f2 b hb).2⟩,by rw[h3,size_push];exact Nat.lt_succ_of_lt hlt⟩;rw[ah (by rw[<- hD];exact ne_of_lt hlt)];exact(f2 b hb).1
 have st3:tn 0 s3.heap:=T.keep _ _ _ st2 λb _ o e=>by rw[h3];exact get?_push_of_some _ e
 have I4:=ud I3 ok hN f3;have pg:=hg s3 (upd H2 D (.lst [])) s3.heap.objs.size (cellsFrom (s3.heap.objs.size+1) scope.names (be X.env.cells scope.names [])) fp;have pt:=ht s3 (upd H2 D (.lst [])) s3.heap.objs.size (cellsFrom (s3.heap.objs.size+1) scope.names (be X.env.cells scope.names [])) fp;have pe:=he s3 (upd H2 D (.lst [])) s3.heap.objs.size (cellsFrom (s3.heap.objs.size+1) scope.names (be X.env.cells scope.names [])) fp;show codeAny _ _ (.compStart (.ListComp elt [⟨tg,iter,ifs,0⟩] scope pos) 0 (.ref it) (.ref D) (compEnvC scope (cellsFrom (s3.heap.objs.size+1) scope.names (be X.env.cells scope.names [])) s3.heap.objs.size X.env)) (compPost (model X.prog X.w) X.A X.xe use Qf (.ref D) s3.heap.objs.size) { s3 with heap:=pushCells (s3.heap.push { cls:=.type "dict",data:=.dict #[] }) scope.names };have nfp:∀b∈fp,(upd H2 D (.lst [])) b=none:=λb hb=>(f3 b hb).1.1;generalize hce:compEnvC scope (cellsFrom (s3.heap.objs.size+1) scope.names (be X.env.cells scope.names [])) s3.heap.objs.size X.env=ce at I4 pg pt pe ⊢;have cL:ce.locals=s3.heap.objs.size:=by subst hce;rfl
 generalize hH3:upd H2 D (.lst [])=H3 at I3 I4 pg pt pe w0 nfp f3;generalize hs4:({ s3 with heap:=pushCells (s3.heap.push { cls:=.type "dict",data:=.dict #[] }) scope.names }:Shared)=s4 at I4 ⊢;have st4:tn 0 s4.heap:=T.keep _ _ _ st3 λb _ o e=>by rw[<- hs4];exact pushCells_keeps _ _ _ _ (get?_push_of_some _ e)
 have stat:∀{σ':St} {H':Hp} {s':Shared},aH (X.blk s3 H3 scope ce fp) [] σ' H' s'->(∀b∈fp,H' b=none)->∀b∈fp,gn (X.blk s3 H3 scope ce fp) [] H' b:=λ{σ' H' s'} I' hn b hb=>
  ⟨hn b hb,(I'.ok.exf b hb).1,I'.ok.exfs b hb,.inl hb,λx c e=>(I'.ok.exf b hb).2 x c e,λp hp=>absurd (show p∈([]:List (Addr×Obj))++[]from hp) (by simp)⟩
 have loop:codeAny (model X.prog X.w) X.A (.compLoop (.ListComp elt [⟨tg,iter,ifs,0⟩] scope pos) 0 (.ref it) (.ref D) ce) (compPost (model X.prog X.w) X.A X.xe use Qf (.ref D) s3.heap.objs.size) s4:=by
  refine rS (λn s'=>∃i H',aH (X.blk s3 H3 scope ce fp) [] (eW σ (own.map (·.2))) H' s'/\tn i s'.heap/\(∀b∈fp,H' b=none)/\W i n H') ?_ m0 ⟨0,H3,I4,st4,nfp,w0⟩;rintro n s5 ⟨i,H5,I5,st5,n5,w5⟩;rcases turn i n H5 w5 with⟨stop,qq⟩|⟨go,Nx,hNx,step⟩
  .have td:=T.done (X.blk s3 H3 scope ce fp) rfl rfl rfl hc i [] s5 _ H5 (λ_ _=>False) I5 (stat I5 n5) st5 stop;refine yh td λr s6 ⟨hr,I6⟩=>?_;subst hr;have I7:aH X pins σ H5 s6:=I3.call' (ch:=fp) I6.os I6.base I6.hok I6.bare λb hb=>⟨(f3 b hb).1.2.2.2.1,(f3 b hb).1.2.1,(f3 b hb).1.2.2.2.2.1,(f3 b hb).1.2.2.2.2.2⟩
   have nC:H5 s3.heap.objs.size=none:=by have z:H5 ce.locals=none:=I6.free;rw[cL]at z;exact z
   obtain⟨m,hn,_⟩:=I6.loc;have hn:s6.heap.Ns ce.locals m:=hn;rw[cL]at hn;exact hRR D s3.heap.objs.size s6 m H5 I7 qq hn (I3.fpOk (Nat.le_refl _) nC)
  .have ti:=T.item (X.blk s3 H3 scope ce fp) rfl rfl rfl hc i [] s5 _ H5 (λ_ _=>False) I5 (stat I5 n5) st5 go;refine yh ti λr s6 ⟨u,hr,h6⟩=>?_;subst hr;refine yh h6 λ_ s7 ⟨x,H7,I7,r7,y7,st7,n7⟩=>?_;have I7':=I7.pinned (stat I7 n7) (T.obj _ _ st7);refine yh (pg _ s7 _ H7 x u _ I7' r7 (step x H7 y7)) λ_ s8 ⟨σ8,H8,I8,hw8,q8⟩=>?_;refine yh (pt _ s8 σ8 H8 _ I8 q8) λb s9 ⟨H9,I9,q9⟩=>?_;have fin:∀{s':Shared} {H':Hp},aH (X.blk s3 H3 scope ce fp) ([]++oG fp s7.heap) σ8 H' s'->Nx H'->∃m,m<n/\∃i H',aH (X.blk s3 H3 scope ce fp) [] (eW σ (own.map (·.2))) H' s'/\tn i s'.heap/\(∀b∈fp,H' b=none)/\W i m H':=λ{s' H'} I' nx=>by
    obtain⟨m',hm,w'⟩:=hNx H' nx;have pin':∀b∈fp,∀o,s7.heap.get? b=some o->s'.heap.get? b=some o/\H' b=none:=λb hb o e=>
     let z:=I'.pin (b,o) (mem_append_right _ (mem_append_right _ (dG hb e)))
     ⟨z.1,z.2.1⟩
    have hl:(eW σ (own.map (·.2))).length=σ8.length:=by rw[<- hw8,jy]
    refine⟨m',hm,i+1,H',(I'.unpinned (pins:=[])).weak hl (λj v e=>?_),T.keep _ _ _ st7 λb hb o e=>(pin' b hb o e).1,λb hb=>?_,w'⟩
    .rw[<- hw8]at e;exact(mf e).1
    .obtain⟨o,e,_⟩:=T.obj _ _ st7 b hb;exact(pin' b hb o e).2
   cases b with
   |false=>
    simp only[Bool.false_eq_true,if_false]at q9 ⊢;exact fin I9 q9
   |true=>
    simp only[if_true]at q9 ⊢;refine yh (pe _ s9 σ8 H9 _ I9 q9) λz s10 ⟨yv,H10,I10,r10,acc,hD10,hz10,nx⟩=>?_;exact Em (X:=X.blk s3 H3 scope ce fp) I10 hD10 hz10 r10 λs11 I11=>fin I11 nx
 exact codeAny_compStart_list loop (T.self X.A 0 _ _ _ st4 loop)
theorem im {elt tg iter:Expr}{ifs:List Expr}{scope:Scope}{own:List (Str×Nat)}{pos:Pos}{wi:TI}{g:TG}{tt:TT}{te:TE}(hc:X.calm=true)(hN:X.N.Nodup)(hi:PI X tg iter wi)(ok:uc X.N X.env.scope scope own)
  (hg:∀(s:Shared) (H:Hp) (C:Addr) (cl:List (Str×Addr)) (fp:List Addr),PG (X.blk s H scope (compEnvC scope cl C X.env) fp) tg g) (ht:∀(s:Shared) (H:Hp) (C:Addr) (cl:List (Str×Addr)) (fp:List Addr),Fo (X.blk s H scope (compEnvC scope cl C X.env) fp) ifs tt)
  (he:∀(s:Shared) (H:Hp) (C:Addr) (cl:List (Str×Addr)) (fp:List Addr),PE (X.blk s H scope (compEnvC scope cl C X.env) fp) elt te) (hs:∀x,foldedSetIterable iter X.env x=pure x:=by intro _;rfl) :
  PE X (.ListComp elt [⟨tg,iter,ifs,0⟩] scope pos) (E3 wi g tt te (own.map (·.2))):=by
 intro pins s σ H Q I h;rw[eval_ListComp];refine wZ hc hN I hi ok hg ht he hs h λD C s' m H' I' q hn f=>⟨m,hn,λh'' sb=>?_⟩
 obtain⟨f0,f1,f2,f3,f4,f5⟩:=f;exact⟨.ref D,H',I'.turned (t':=s'.toks) (λb o hb e=>(sb.2 b hb).trans e) f0 f1 f3 f4 f5,rfl,q⟩
theorem lf {i:Nat}{y:Str}{py:Pos}{elt tg iter:Expr}{ifs:List Expr}{scope:Scope}{own:List (Str×Nat)}{pos spos:Pos}{wi:TI}{g:TG}{tt:TT}{te:TE}(hc:X.calm=true)(hN:X.N.Nodup)(hy:X.N[i]?=some y)(hyl:X.env.scope.names.lookup y=some .local)
  (hsw:swapsWith (.ListComp elt [⟨tg,iter,ifs,0⟩] scope pos) (some (.Name y py)) spos.line X.env=pure true) (hi:PI X tg iter wi) (ok:uc X.N X.env.scope scope own)
  (hg:∀(s:Shared) (H:Hp) (C:Addr) (cl:List (Str×Addr)) (fp:List Addr),PG (X.blk s H scope (compEnvC scope cl C X.env) fp) tg g) (ht:∀(s:Shared) (H:Hp) (C:Addr) (cl:List (Str×Addr)) (fp:List Addr),Fo (X.blk s H scope (compEnvC scope cl C X.env) fp) ifs tt)
  (he:∀(s:Shared) (H:Hp) (C:Addr) (cl:List (Str×Addr)) (fp:List Addr),PE (X.blk s H scope (compEnvC scope cl C X.env) fp) elt te) (hs:∀x,foldedSetIterable iter X.env x=pure x:=by intro _;rfl) :
  PS X (.Assign [.Name y py] (.ListComp elt [⟨tg,iter,ifs,0⟩] scope pos) spos) (vC (E3 wi g tt te (own.map (·.2))) (km i)):=by
 intro pins s σ H D I h;rw[exec_Assign_Name_used _ _ _ _ hsw];refine wpAny_bind (wpAny_standAt (wpAny_bind ?_));show wpAny _ X.A (do let _ <- comprehension (.ListComp elt [⟨tg,iter,ifs,0⟩] scope pos) scope X.env (firstIterPos [⟨tg,iter,ifs,0⟩] pos) (newList []) false (eval iter X.env) (some (assign (.Name y py) X.env))) _ _ s;have h:E3 wi g tt te (own.map (·.2)) σ H (λx H1=>km i x σ H1 D.nx):=h;refine wpAny_bind (cx (wZ (Qf:=λ_ s'=>SP X pins D .next s') hc hN I hi ok hg ht he hs h λL C s' m H' I' q hn f=>?_) λ_ s' hq=>wpAny_pure (wpAny_pure hq));show wpAny _ _ (assign (.Name y py) X.env (.ref L)) _ _ _;refine wpAny_assign_Name (qp (v:=V.ref L) I' hN hy (.inl hyl) rfl (λs2 I2 ⟨a,sb,ha⟩=>?_) (.inr hyl));obtain⟨f0,f1,f2,f3,f4,f5⟩:=f;have haC:C≠a:=by
  rcases ha with z|z
  .rw[z];exact f1
  .exact λe=>f4 y a z e.symm
 refine⟨m,hn.sameBut sb haC,λh3 sb3=>?_⟩;exact⟨_,H',I2.turned (t':=s2.toks) (λb o hb e=>(sb3.2 b hb).trans e) f0 f1 f3 f4 f5,q⟩
theorem rT {elt:Expr}{gs:List Comprehension}{scope:Scope}{pos py:Pos}{y:Str}{l:Nat}{env:Env}(hk:env.scope.kind = .function)(hy:env.scope.names.lookup y=some .local)(hl:(py.line==pos.line)=true)
  (ha:(scope.names.any λ(n,k)=>n==y&&(k==.local||k==.cell))=false):swapsWith (.ListComp elt gs scope pos) (some (.Name y py)) l env=pure true:=by
 have ky:env.kindOf y=some .local:=hy;have hb:env.blockKind = .function:=by unfold Env.blockKind;rw[hk];rfl
 unfold swapsWith;simp only[hb,ky,ha,Expr.pos,hl]
 rfl
end
section
variable {prog:Program}{w:World}{A:Around}{R:Result->Shared->Prop}{s:Shared}{elt t0 i0 t1 i1:Expr}{ifs0 ifs1:List Expr}{scope:Scope}{pos:Pos}{it acc:Value}{env:Env}
end
section
variable {X:Cx}
end
section
variable {κ:Type}[DecidableEq κ]
def cS (kvs:List (κ×V))(k:κ):Option V:=(kvs.find? λkv=>decide (kv.1=k)).map (·.2)
def gE (kvs:List (κ×V))(k:κ)(v:V):List (κ×V):=if (kvs.any λkv=>decide (kv.1=k))=true then kvs.map (λkv=>if kv.1=k then(kv.1,v)else kv)else kvs++[(k,v)]
theorem dn {p:κ×V}{r:List (κ×V)}{k:κ}(e:p.1=k):cS (p::r) k=some p.2:=by simp[cS,find?_cons,e]
theorem cY {p:κ×V}{r:List (κ×V)}{k:κ}(e:¬p.1=k):cS (p::r) k=cS r k:=by simp[cS,find?_cons,e]
theorem gr (k:κ):∀kvs:List (κ×V),(kvs.any λkv=>decide (kv.1=k))=(cS kvs k).isSome
 |[]=>rfl
 |p::r=>by
  rw[any_cons];by_cases e:p.1=k
  .simp only[dn e,decide_eq_true e,Bool.true_or,Option.isSome_some]
  .rw[cY e,decide_eq_false e,Bool.false_or];exact gr k r
theorem ue (k j:κ)(y:V):∀kvs:List (κ×V),cS (kvs.map λkv=>if kv.1=k then(kv.1,y)else kv) j=(cS kvs j).map λx=>if j=k then y else x
 |[]=>rfl
 |p::r=>by
  have ih:=ue k j y r;rw[map_cons];by_cases h:p.1=k
  .rw[if_pos h];by_cases e:p.1=j
   .rw[dn (p:=(p.1,y)) e,dn e,map_some,if_pos (e.symm.trans h)]
   .rw[cY (p:=(p.1,y)) e,cY e,ih]
  .rw[if_neg h];by_cases e:p.1=j
   .rw[dn (p:=p) e,dn e,map_some,if_neg (λz=>h (e.trans z))]
   .rw[cY (p:=p) e,cY e,ih]
theorem qB (k j:κ)(y:V):∀kvs:List (κ×V),cS kvs k=none->cS (kvs++[(k,y)]) j=if j=k then some y else cS kvs j
 |[],_=>by
  by_cases e:k=j
  .rw[if_pos e.symm];exact dn (p:=(k,y)) e
  .rw[if_neg (λz=>e z.symm)];exact cY (p:=(k,y)) e
 |p::r,hn=>by
  rw[List.cons_append];have hk:¬p.1=k:=λz=>by rw[dn z]at hn;cases hn
  rw[cY hk]at hn;have ih:=qB k j y r hn;by_cases e:p.1=j
  .rw[dn e,dn e,if_neg (λz=>hk (e.trans z))]
  .rw[cY e,cY e,ih]
theorem zV (kvs:List (κ×V))(k j:κ)(y:V):cS (gE kvs k y) j=if j=k then some y else cS kvs j:=by
 unfold gE;by_cases a:(kvs.any λkv=>decide (kv.1=k))=true
 .rw[if_pos a,ue];rw[gr]at a;by_cases e:j=k
  .obtain⟨x,hx⟩:=Option.isSome_iff_exists.mp a;rw[if_pos e,e,hx,map_some,if_pos rfl]
  .rw[if_neg e];cases cS kvs j with
   |none=>rfl
   |some x=>rw[map_some,if_neg e]
 .rw[if_neg a];refine qB k j y kvs ?_;rw[gr]at a;cases q:cS kvs k with
  |none=>rfl
  |some x=>rw[q]at a;exact(a rfl).elim
theorem mQ (kvs:List (κ×V))(k:κ)(v:V):(gE kvs k v).length<=kvs.length+1:=by
 unfold gE;split
 .rw[length_map];omega
 .rw[length_append,length_cons,List.length_nil];omega
theorem js.isSome_eq {o:Option V}{u:Option Value}(r:js o u):o.isSome=u.isSome:=by
 cases o with
 |none=>cases u with
  |none=>rfl
  |some _=>exact(show False from r).elim
 |some _=>cases u with
  |none=>exact(show False from r).elim
  |some _=>rfl
theorem KV.val {kvs:List (κ×V)}{vs:List (κ×Value)}(r:KV kvs vs)(k:κ):js (cS kvs k) (valueAt vs k):=by
 unfold KV at r
 induction r with
 |nil=>exact True.intro
 |@cons p q ps qs h t ih=>
  obtain⟨h1,h2⟩:=h;by_cases e:p.1=k
  .have e':q.1=k:=h1.symm.trans e;have b:valueAt (q::qs) k=some q.2:=by simp[valueAt,find?_cons,e']
   rw[dn e,b];exact h2
  .have e':¬q.1=k:=λz=>e (h1.trans z);have b:valueAt (q::qs) k=valueAt qs k:=by simp[valueAt,find?_cons,e']
   rw[cY e,b];exact ih
theorem KV.any {kvs:List (κ×V)}{vs:List (κ×Value)}(r:KV kvs vs)(k:κ):(kvs.any λkv=>decide (kv.1=k))=vs.any λkv=>decide (kv.1=k):=by
 unfold KV at r
 induction r with
 |nil=>rfl
 |cons h t ih=>rw[any_cons,any_cons,ih,h.1]
theorem KV.repl {kvs:List (κ×V)}{vs:List (κ×Value)}(r:KV kvs vs)(k:κ){y:V}{u:Value}(ry:bI y u) :
  KV (kvs.map λkv=>if kv.1=k then(kv.1,y)else kv) (vs.map λkv=>if kv.1=k then(kv.1,u)else kv):=by
 unfold KV at r ⊢
 induction r with
 |nil=>exact .nil
 |@cons p q ps qs h t ih=>
  rw[map_cons,map_cons];refine .cons ?_ ih;obtain⟨h1,h2⟩:=h;by_cases e:p.1=k
  .rw[if_pos e,if_pos (h1.symm.trans e)];exact⟨h1,ry⟩
  .rw[if_neg e,if_neg (λz=>e (h1.trans z))];exact⟨h1,h2⟩
theorem KV.put {kvs:List (κ×V)}{vs:List (κ×Value)}(r:KV kvs vs)(k:κ){y:V}{u:Value}(ry:bI y u):KV (gE kvs k y) (stored vs k u):=by
 unfold gE stored;rw[r.any k];by_cases e:(vs.any λkv=>decide (kv.1=k))=true
 .rw[if_pos e,if_pos e];exact r.repl k ry
 .rw[if_neg e,if_neg e];exact Paired.snoc r ⟨rfl,ry⟩
theorem KV.length {kvs:List (κ×V)}{vs:List (κ×Value)}(r:KV kvs vs):kvs.length=vs.length:=Paired.length r
end
theorem uf {P:Program}{w:World}{k:cT}{u:Value}(r:bI (kV k) u):(bM P w).is k u=true:=by
 cases k with
 |inl i=>obtain⟨t,e⟩:=(show∃t,u=Value.int i t from r);subst e;exact tK P w i t
 |inr x=>obtain⟨t,e⟩:=(show∃t,u=Value.str x t from r);subst e;exact tL P w x t
theorem qC {P:Program}{w:World}:∀{ks:List cT} {us:List Value},bn (ks.map kV) us->ItemsAre (bM P w) ks us
 |[],_,r=>by rw[map_nil]at r;cases r;exact .nil
 |k::ks,_,r=>by
  rw[map_cons]at r;cases r with
  |cons h t=>exact .cons (uf h) (qC t)
abbrev KT (H:Hp):List (List cT×V)->List (List cT×Addr×Value)->Prop:=Paired λp q=>p.1=q.1/\H q.2.1=some (.tup (p.1.map kV))/\bI p.2 q.2.2
theorem KT.val {H:Hp}{kvs:List (List cT×V)}{xs:List (List cT×Addr×Value)}(r:KT H kvs xs)(k:List cT):js (cS kvs k) ((atKey xs k).map (·.2)):=by
 induction r with
 |nil=>exact True.intro
 |@cons p q ps qs h t ih=>
  obtain⟨h1,_,h2⟩:=h;by_cases e:p.1=k
  .have e':q.1=k:=h1.symm.trans e;have b:atKey (q::qs) k=some q.2:=by simp[atKey,find?_cons,e']
   rw[dn e,b];exact h2
  .have e':¬q.1=k:=λz=>e (h1.trans z);have b:atKey (q::qs) k=atKey qs k:=by simp[atKey,find?_cons,e']
   rw[cY e,b];exact ih
theorem KT.repl {H:Hp}{kvs:List (List cT×V)}{xs:List (List cT×Addr×Value)}(r:KT H kvs xs)(k:List cT){y:V}{u:Value}(ry:bI y u) :
  KT H (kvs.map λkv=>if kv.1=k then(kv.1,y)else kv) (xs.map (putAt k u)):=by
 induction r with
 |nil=>exact .nil
 |@cons p q ps qs h t ih=>
  rw[map_cons,map_cons];refine .cons ?_ ih;obtain⟨h1,h2,h3⟩:=h;unfold putAt;by_cases e:p.1=k
  .rw[if_pos e,if_pos (h1.symm.trans e)];exact⟨h1,h2,ry⟩
  .rw[if_neg e,if_neg (λz=>e (h1.trans z))];exact⟨h1,h2,h3⟩
theorem KT.put {H:Hp}{kvs:List (List cT×V)}{xs:List (List cT×Addr×Value)}(r:KT H kvs xs)(k:List cT){b:Addr}{y:V}{u:Value}(hb:H b=some (.tup (k.map kV)))(ry:bI y u) :
  KT H (gE kvs k y) (storedH xs k b u):=by
 have e:(kvs.any λkv=>decide (kv.1=k))=(atKey xs k).isSome:=by rw[gr,(r.val k).isSome_eq,Option.isSome_map]
 unfold gE storedH;rw[e];by_cases q:(atKey xs k).isSome=true
 .rw[if_pos q,if_pos q];exact r.repl k ry
 .rw[if_neg q,if_neg q];exact Paired.snoc r ⟨rfl,hb,ry⟩
theorem KT.keeps {H H':Hp}{kvs:List (List cT×V)}{xs:List (List cT×Addr×Value)}(r:KT H kvs xs)(ht:∀b ys,H b=some (.tup ys)->H' b=some (.tup ys)):KT H' kvs xs:=Paired.mapP r λ_ _ z=>⟨z.1,ht _ _ z.2.1,z.2.2⟩
section
variable {P:Program}{w:World}{H:Hp}{h:Heap}{a:Addr}
theorem Ds {u:HO}(ok:ji P w H h)(e:Rd H a u):cX P w H h a u:=e.ok ok
theorem ug {kvs:List (cT×V)}(ok:ji P w H h)(e:Rd H a (.dK kvs)):kvs.length<=sizeLine/\(a==sysModules)=false/\∃vs,KV kvs vs/\h.DictOf (bM P w) a vs:=show cX P w H h a (.dK kvs)from Ds ok e
theorem zW {kvs:List (cT×V)}(ok:ji P w H h)(e:H a=some (.dK kvs)):kvs.length<=sizeLine/\(a==sysModules)=false/\∃vs,KV kvs vs/\h.DictOf (bM P w) a vs:=ug ok (.inl e)
theorem rV {ks:List cT}(ok:ji P w H h)(e:H a=some (.tup (ks.map kV))):(tupleKind (bM P w)).is h ks a:=by
 obtain⟨_,its,r,o,h1,h2,n,h3⟩:=(show cX P w H h a (.tup (ks.map kV))from ok a _ e)
 exact⟨o,its.toArray,n,h1,h2,h3,by simpa using qC r⟩
theorem w4 {kvs:List (List cT×V)}(ok:ji P w H h)(e:Rd H a (.dT kvs)):kvs.length<=sizeLine/\(a==sysModules)=false/\
  ∃xs,KT H kvs xs/\h.DictOfH (tupleKind (bM P w)) a xs:=by
 obtain⟨z,y,xs,r,o,es,ep,h1,h2,h3,h4,h5⟩:=(show cX P w H h a (.dT kvs)from Ds ok e)
 refine⟨z,y,xs,r,o,es,ep,h1,h2,h3,h4,λx hx=>?_,h5⟩;have all:∀{l:List (List cT×V)} {m:List (List cT×Addr×Value)},KT H l m->∀x∈m,(tupleKind (bM P w)).is h x.1 x.2.1:=by
  intro l m q
  induction q with
  |nil=>intro x hx;exact nomatch hx
  |@cons p q ps qs hq t ih=>
   intro x hx;rcases mem_cons.mp hx with e|hx
   .subst e;exact rV ok (by rw[<- hq.1];exact hq.2.1)
   .exact ih x hx
 exact all r x hx
theorem Fq {kvs:List (List cT×V)}(ok:ji P w H h)(e:H a=some (.dT kvs)):kvs.length<=sizeLine/\(a==sysModules)=false/\
  ∃xs,KT H kvs xs/\h.DictOfH (tupleKind (bM P w)) a xs:=w4 ok (.inl e)
end
def dq (H:Hp)(a:Addr)(y:V)(r:Option V):Prop:=(∃kvs k,Rd H a (.dK kvs)/\y=kV k/\r=cS kvs k)\/∃kvs k b,Rd H a (.dT kvs)/\y = .ref b/\H b=some (.tup (k.map kV))/\r=cS kvs k
def rW (H:Hp)(a:Addr)(y v:V)(H':Hp):Prop:=(∃kvs k,H a=some (.dK kvs)/\y=kV k/\kvs.length<sizeLine/\H'=upd H a (.dK (gE kvs k v)))\/
 ∃kvs k b,H a=some (.dT kvs)/\y = .ref b/\H b=some (.tup (k.map kV))/\kvs.length<sizeLine/\H'=upd H a (.dT (gE kvs k v))
theorem dq.k {H:Hp}{a:Addr}{kvs:List (cT×V)}{k:cT}(e:H a=some (.dK kvs)):dq H a (kV k) (cS kvs k):=.inl ⟨kvs,k,.inl e,rfl,rfl⟩
theorem rW.k {H:Hp}{a:Addr}{kvs:List (cT×V)}{k:cT}{v:V}(e:H a=some (.dK kvs))(hl:kvs.length<sizeLine):rW H a (kV k) v (upd H a (.dK (gE kvs k v))):=.inl ⟨kvs,k,e,rfl,hl,rfl⟩
section
variable {X:Cx}{pins:List (Addr×Obj)}{σ:St}{H:Hp}{s:Shared}{a:Addr}{y v:V}{u r:Value}{o:Option V}{A:Around}{E:Value->Shared->Prop}
theorem aH.big (I:aH X pins σ H s):sysModules<s.heap.objs.size:=by have h:mainGlobals<s.heap.objs.size:=(I.mod.glob.keeps I.bk).lt;exact Nat.lt_trans (by decide) h
theorem yi {Q:Value->Shared->Prop}(hu:A.units+1<cLine)(I:aH X pins σ H s)(g:dq H a y (some v))(ry:bI y u)(h:∀w' s',aH X pins σ H s'->bI v w'->Q w' s') :
  wpAny (model X.prog X.w) A (getItem (.ref a) u) Q E s:=by
 rcases g with⟨kvs,k,e,ey,l⟩|⟨kvs,k,b,e,ey,eb,l⟩
 .subst ey;obtain⟨z,hd,vs,rel,dd⟩:=ug I.hok e;obtain⟨w',hw,rw'⟩:=js.some_of (v:=v) (o:=valueAt vs k) (by rw[l];exact rel.val k);exact wpAny_getItem_of (uf ry) dd.mapOf hw (h w' _ (I.tok _) rw')
 .subst ey;cases (show u=Value.ref b from ry);obtain⟨z,hd,xs,rel,dd⟩:=w4 I.hok e;obtain⟨w',hw,rw'⟩:=js.some_of (v:=v) (o:=(atKey xs k).map (·.2)) (by rw[l];exact rel.val k);obtain⟨p,hp,hp2⟩:=map_eq_some_iff.mp hw;refine wpAny_getItem_heap (tupleKind_room_in1 hu) (rV I.hok eb) dd hp ?_;rw[hp2];exact h w' _ (I.tok _) rw'
theorem Cj {Q:Value->Shared->Prop}(hu:A.units+1<cLine)(I:aH X pins σ H s)(g:dq H a y o)(ry:bI y u)(h:∀s',aH X pins σ H s'->Q (.bool (!o.isSome)) s') :
  wpAny (model X.prog X.w) A (compareOp .NotIn u (.ref a)) Q E s:=by
 rcases g with⟨kvs,k,e,ey,l⟩|⟨kvs,k,b,e,ey,eb,l⟩
 .subst ey;obtain⟨z,hd,vs,rel,dd⟩:=ug I.hok e;refine wpAny_notIn_of (uf ry) hd dd.mapOf ?_;rw[<- (rel.val k).isSome_eq,<- l];exact h _ (I.tok _)
 .subst ey;cases (show u=Value.ref b from ry);obtain⟨z,hd,xs,rel,dd⟩:=w4 I.hok e;refine wpAny_notIn_heap (tupleKind_room_in1 hu) (rV I.hok eb) hd dd ?_;have q:=(rel.val k).isSome_eq;rw[Option.isSome_map]at q;rw[<- q,<- l];exact h _ (I.tok _)
theorem w6 {h':Heap}{t':Nat}{ob:HO}(I:aH X pins σ H s)(mu:Di (H a))(hs:SameBut a s.heap h')(he:∃q,h'.get? a=some q)(new:cX X.prog X.w (upd H a ob) h' a ob) :
  aH X pins σ (upd H a ob) { s with heap:=h',toks:=t' }:=
 I.write (x:=a) (e:=a) mu (.inl rfl) (λb q hb z=>(hs.2 b hb).trans z) he new
theorem En {P:Program}{w:World}{H':Hp}{h':Heap}{kvs:List (cT×V)}{vs:List (cT×Value)}(z:kvs.length<=sizeLine)(hd:(a==sysModules)=false)(rel:KV kvs vs)(dd:h'.DictOf (bM P w) a vs) :
  cX P w H' h' a (.dK kvs):=⟨z,hd,vs,rel,dd⟩
theorem yj {H':Hp}{Q:Unit->Shared->Prop}(hu:A.units+1<cLine)(I:aH X pins σ H s)(g:rW H a y v H')(ry:bI y u)(rv:bI v r)(h:∀s',aH X pins σ H' s'->Q () s') :
  wpAny (model X.prog X.w) A (setItem (.ref a) u r) Q E s:=by
 rcases g with⟨kvs,k,e,ey,l,eH⟩|⟨kvs,k,b,e,ey,eb,l,eH⟩
 .subst ey eH;obtain⟨z,hd,vs,rel,dd⟩:=zW I.hok e;have hz:vs.length<=sizeLine:=by rw[<- rel.length];exact z
  have hl:(gE kvs k v).length<=sizeLine:=by have:=mQ kvs k v;omega
  refine wpAny_setItem_pairs (hsz:=hz) (uf ry) dd λh' dd' hs=>h _ ?_;have he:∃q,h'.get? a=some q:=let ⟨q,_,_,hq,_⟩:=dd';⟨q,hq⟩
  exact w6 I (by rw[e];exact True.intro) hs he (En hl hd (rel.put k rv) dd')
 .subst ey eH;cases (show u=Value.ref b from ry);obtain⟨z,hd,xs,rel,dd⟩:=Fq I.hok e;have hz:xs.length<=sizeLine:=by rw[<- Paired.length rel];exact z
  have hl:(gE kvs k v).length<=sizeLine:=by have:=mQ kvs k v;omega
  refine wpAny_setItem_heap (hsz:=hz) (tupleKind_room_in1 hu) (rV I.hok eb) dd λh' dd' hs=>h _ ?_;obtain⟨q,es,ep,hq,h2,h3,h4,_,h5⟩:=dd';refine w6 I (by rw[e];exact True.intro) hs ⟨q,hq⟩ ⟨hl,hd,_,(rel.put k eb rv).keeps λc ys ec=>?_,q,es,ep,hq,h2,h3,h4,h5⟩;rw[ah (aP ec e (λz=>nomatch z))];exact ec
end
section
variable {X:Cx}{pins:List (Addr×Obj)}{σ:St}{H:Hp}{s:Shared}{a:Addr}{kvs:List (cT×V)}{k:cT}{u:Value}{A:Around}{E:Value->Shared->Prop}
theorem Fs {Q:Value->Shared->Prop}(I:aH X pins σ H s)(e:Rd H a (.dK kvs))(h:∀t s',aH X pins σ H s'->Q (.int kvs.length t) s'):wpAny (model X.prog X.w) A (call (.builtin "len") [.ref a]) Q E s:=by obtain⟨z,hd,vs,rel,dd⟩:=ug I.hok e;refine call_len_dict hd dd (by rw[<- rel.length];rw[sizeLine_eq]at z;omega) ?_;rw[<- rel.length];exact h _ _ (I.tok _)
end
def Eo (i:Expr):Prop:=∀ov iv,subscripted i false ov iv=operate [ov,iv] (getItem ov iv)
theorem w8 {prog:Program}{w:World}{A:Around}{E:Value->Shared->Prop}{s:Shared}{env:Env}{value slice:Expr}{pos:Pos}{T id:String}{Q:Value->Shared->Prop}
  (hl:typeLookup (.type T) "__getitem__"=pure (some (.builtin id))) (hs:Eo slice)
  (h:wpAny (model prog w) A (eval value env) (λo s₁=>wpAny (model prog w) A (eval slice env) (λi s₂=>s₂.TypeIs o T/\wpAny (model prog w) A (getItem o i) Q E s₂) E s₁) E s) :
  wpAny (model prog w) A (eval (.Subscript value slice pos) env) Q E s:=by
 refine Subscript_ (wpAny_mono h (λo s₁ h₁=>wpAny_mono h₁ (λi s₂ h₂=>?_) λ_ _ x=>x) λ_ _ x=>x);obtain⟨hT,h₂⟩:=h₂;unfold subscriptTail;refine wpAny_bind ?_;rw[getitemInPython_of_ne hT.not_modules];refine wpAny_bind (wpAny_specialOf hT hl ?_);have fin:wpAny (model prog w) A (subscripted slice false o i) (λr s₃=>wpAny (model prog w) A (letTemporaryGo value o r >>= λ_=>pure r) Q E s₃) E s₂:=by rw[hs o i];exact wpAny_operating (wpAny_mono h₂ (λr s₃ h₃=>wpAny_bind (wpAny_letTemporaryGo (wpAny_pure h₃))) λ_ _ x=>x)
 first
  |exact wpAny_pure (wpAny_bind fin)
  |exact wpAny_bind (wpAny_pure (wpAny_bind fin))
  |exact wpAny_bind fin
theorem uh {X:Cx}{pins:List (Addr×Obj)}{σ:St}{H:Hp}{s:Shared}{a:Addr}{y:V}{o:Option V}(I:aH X pins σ H s)(g:dq H a y o):s.TypeIs (.ref a) "dict":=by
 rcases g with⟨kvs,k,e,_,_⟩|⟨kvs,k,b,e,_,_,_⟩
 .obtain⟨_,_,vs,_,dd⟩:=ug I.hok e;exact dd.typeIs
 .obtain⟨_,_,xs,_,dd⟩:=w4 I.hok e;exact dd.typeIs
def Dt (td ty:TE):TE:=λσ H Q=>td σ H λx H1=>ty σ H1 λy H2=>∃a v,x = .ref a/\dq H2 a y (some v)/\Q v H2
def w9 (ty td:TE):TE:=λσ H Q=>ty σ H λy H1=>td σ H1 λx H2=>∃a o,x = .ref a/\dq H2 a y o/\Q (.bl (!o.isSome)) H2
def Du (td ty tv:TE):TS:=λD σ H=>tv σ H λv H1=>td σ H1 λx H2=>ty σ H2 λy H3=>∃a H4,x = .ref a/\rW H3 a y v H4/\D.nx σ H4
section
variable {X:Cx}{o i e value:Expr}{pos pos' tpos:Pos}{td ty tv:TE}
theorem dS (hu:X.A.units+1<cLine)(ho:PE X o td)(hi:PE X i ty)(hs:Eo i):PE X (.Subscript o i pos) (Dt td ty):=by intro pins s σ H Q I h;refine w8 PySem.F.slot_dict_getitem.lookup hs (cx (ho pins s σ H _ I h) λu s1 ⟨x,H1,I1,rx,q1⟩=>cx (hi pins s1 σ H1 _ I1 q1) λiv s2 ⟨y,H2,I2,ry,a,v,ex,g,q2⟩=>?_);subst ex;obtain rfl:u=Value.ref a:=rx;exact⟨uh I2 g,yi hu I2 g ry λw' s3 I3 rw'=>⟨v,H2,I3,rw',q2⟩⟩
theorem yk (hu:X.A.units+1<cLine)(hi:PE X i ty)(ho:PE X o td):PC X .NotIn i o (w9 ty td):=by intro pins s σ H Q I h;refine cx (hi pins s σ H _ I h) λiv s1 ⟨y,H1,I1,ry,q1⟩=>cx (ho pins s1 σ H1 _ I1 q1) λu s2 ⟨x,H2,I2,rx,a,ov,ex,g,q2⟩=>?_;subst ex;obtain rfl:u=Value.ref a:=rx;exact Cj hu I2 g ry λs3 I3=>⟨.bl (!ov.isSome),H2,I3,rfl,q2⟩
theorem nN (hu:X.A.units+1<cLine)(ho:PE X o td)(hi:PE X i ty)(hv:PE X value tv)(hs:swapsWith value (some (.Subscript o i pos')) pos.line X.env=pure false) :
  PS X (.Assign [.Subscript o i pos'] value pos) (Du td ty tv):=by
 intro pins s σ H D I h;refine wpAny_Assign_Subscript (cx (hv pins s σ H _ I h) λr s1 ⟨v,H1,I1,rv,q1⟩=>cx (ho pins s1 σ H1 _ I1 q1) λu s2 ⟨x,H2,I2,rx,q2⟩=>cx (hi pins s2 σ H2 _ I2 q2) λiv s3 ⟨y,H3,I3,ry,a,H4,ex,g,q3⟩=>?_) hs;subst ex;obtain rfl:u=Value.ref a:=rx;exact yj hu I3 g ry rv λs4 I4=>⟨σ,H4,I4,q3⟩
end
theorem zX {P:Program}{w:World}{H:Hp}(h:Heap)(hb:sysModules<h.objs.size):cX P w H (h.push { cls:=.type "dict",data:=.dict #[] }) h.objs.size (.dK []):=⟨zero_le _,beq_eq_false_iff_ne.mpr (Ne.symm (ne_of_lt hb)),[],.nil,Heap.DictOf.new h⟩
def zY:TE:=λ_ H Q=>∀p,H p=none->Q (.ref p) (upd H p (.dK []))
section
variable {X:Cx}{pos:Pos}
theorem ui:PE X (.Dict [] [] pos) zY:=λpins s σ H Q I h=>
 wpAny_Dict_empty ⟨.ref s.heap.objs.size,_,I.laid (a:=s.heap.objs.size) (o:=.dK []) (t':=s.toks) (λ_ _ q=>get?_push_of_some _ q) (Nat.le_refl _) (zX s.heap I.big),rfl,h _ (I.hok.fresh (Nat.le_refl _))⟩
end
section
variable {X:Cx}{pins:List (Addr×Obj)}{σ:St}{H:Hp}{s:Shared}{a:Addr}{y d:V}{u r:Value}{o:Option V}{A:Around}{E:Value->Shared->Prop}
end
section
variable {X:Cx}{o e f:Expr}{apos cpos:Pos}{td ty tx:TE}
end
section
variable {X:Cx}{pins:List (Addr×Obj)}{σ:St}{H:Hp}{s:Shared}{a:Addr}{kvs:List (cT×V)}{A:Around}{E:Value->Shared->Prop}
end
section
variable {X:Cx}{pins:List (Addr×Obj)}{σ:St}{H:Hp}{s:Shared}{a:Addr}{y:V}{u:Value}{A:Around}{E:Value->Shared->Prop}
end
section
variable {prog:Program}{w:World}{A:Around}{E:Value->Shared->Prop}
end
section
variable {X:Cx}
end
section
variable {X:Cx}{pins:List (Addr×Obj)}{σ:St}{H:Hp}{s:Shared}{h':Heap}
theorem aH.turnedL {t':Nat}{ch:List Addr}(I:aH X pins σ H s)(k:∀b o,b∉ch->s.heap.get? b=some o->h'.get? b=some o)(hf:∀b∈ch,gn X pins H b):aH X pins σ H { s with heap:=h',toks:=t' }:=by
 have nit:∀b u,H b=some u->b∉ch:=λb u e z=>by have q:=(hf b z).1;rw[q]at e;cases e
 refine I.step (g':=s.gens) (d':=s.drawn) (ch:=ch) (λb hb=>⟨(hf b hb).2.2.2.1,(hf b hb).2.1,(hf b hb).2.2.2.2.1,(hf b hb).2.2.2.2.2⟩) (λb o _ _ hc e _=>k b o hc e) (λb o _ _ hc e _=>⟨o.slots,k b o hc e⟩)
  (λ_ _ _ _ n=>n) (λb o hc e=>⟨o,k b o hc e⟩) (λ_ _ e=>e) (λ_ _ _ e=>e) (λb ps e=>⟨#[],by rw[e];simp⟩) (λm hm=>?_) (λb u e=>?_) I.bare
 .obtain⟨o,es,ep,ho,r⟩:=hm;exact⟨o,es,ep,k _ o (λz=>(hf _ z).2.1 rfl) ho,r⟩
 .refine(I.hok b u e).stay (λc v hc q=>k c v ?_ q) (λ_ q=>q) λ_ _ q=>q;rcases hc with z|z
  .rw[z];exact nit b u e
  .exact nit c _ z
theorem aH.turnedNew {t':Nat}{ch:List Addr}{T:Addr}{ob:HO}(I:aH X pins σ H s)(k:∀b o,b∉ch->s.heap.get? b=some o->h'.get? b=some o)(hf:∀b∈ch,gn X pins H b)(hT:s.heap.objs.size<=T)
  (new:cX X.prog X.w (upd H T ob) h' T ob):aH X pins σ (upd H T ob) { s with heap:=h',toks:=t' }:=by
 have hn:H T=none:=I.hok.fresh hT;have nit:∀b u,H b=some u->b∉ch:=λb u e z=>by have q:=(hf b z).1;rw[q]at e;cases e
 refine I.step (g':=s.gens) (d':=s.drawn) (ch:=ch) (λb hb=>⟨(hf b hb).2.2.2.1,(hf b hb).2.1,(hf b hb).2.2.2.2.1,(hf b hb).2.2.2.2.2⟩) (λb o _ _ hc e _=>k b o hc e) (λb o _ _ hc e _=>⟨o.slots,k b o hc e⟩)
  (λb o _ e n=>?_) (λb o hc e=>⟨o,k b o hc e⟩) (λb xs e=>?_) (λb o u e=>?_) (λb ps e=>⟨#[],?_⟩) (λm hm=>?_) (λb u e=>?_) I.bare
 .rw[ah (ne_of_lt (lt_of_lt_of_le (lt_size e) hT))];exact n
 .rw[ah (aj e hn)];exact e
 .rw[ah (aj e hn)];exact e
 .rw[ah (aj e hn),e];simp
 .obtain⟨o,es,ep,ho,r⟩:=hm;exact⟨o,es,ep,k _ o (λz=>(hf _ z).2.1 rfl) ho,r⟩
 .by_cases hb:b=T
  .subst hb;rw[ac]at e;cases e;exact new
  .rw[ah hb]at e;refine(I.hok b u e).stay (λc v hc q=>k c v ?_ q) (λc q=>by rw[ah (aj q hn)];exact q) λc xs q=>by rw[ah (aj q hn)];exact q
   rcases hc with z|z
   .rw[z];exact nit b u e
   .exact nit c _ z
theorem aH.lock {d:Addr}{u:HO}(I:aH X pins σ H s)(h:H d=some u)(mu:Di (some u)):∃od,aH X pins σ (upd H d (.frz od u)) s:=by
 have x:=I.hok d u h;have ex:∃od,s.heap.get? d=some od:=by
  cases u with
  |lst xs=>obtain⟨_,_,_,_,e⟩:=x;exact⟨_,e⟩
  |dK kvs=>obtain⟨_,_,_,_,o,_,_,e,_⟩:=x;exact⟨o,e⟩
  |dT kvs=>obtain⟨_,_,_,_,o,_,_,e,_⟩:=x;exact⟨o,e⟩
  |set S n=>obtain⟨o,_,_,_,e,_⟩:=x;exact⟨o,e⟩
  |ins C dx fs=>obtain⟨_,_,_,e,_⟩:=x;exact⟨_,e⟩
  |ext φ=>obtain⟨_,⟨_,e⟩,_⟩:=x;exact⟨_,e⟩
  |_=>exact False.elim mu
 obtain⟨od,e⟩:=ex;have new:cX X.prog X.w (upd H d (.frz od u)) s.heap d (.frz od u):=by
  refine⟨e,x.stay (λb v _ q=>q) (λb q=>?_) λb xs q=>?_⟩
  .rw[ah (λz=>by rw[z,h]at q;cases q;exact mu)];exact q
  .rw[ah (λz=>by rw[z,h]at q;cases q;exact mu)];exact q
 exact⟨od,I.write (x:=d) (e:=d) (t':=s.toks) (h':=s.heap) (by rw[h];exact mu) (.inl rfl) (λb v _ q=>q) ⟨od,e⟩ new⟩
theorem aH.nofrz {d:Addr}{u:HO}(I:aH X pins σ H s)(h:H d=some u)(mu:Di (some u)):∀o' u',X.H_0 d≠some (.frz o' u'):=λo' u' e=>by have q:=I.base.frzs d o' u' e;rw[h]at q;cases q;exact mu
theorem aH.unlock {d:Addr}{od:Obj}{u:HO}(I:aH X pins σ H s)(h:H d=some (.frz od u))(hn:∀o' u',X.H_0 d≠some (.frz o' u')):aH X pins σ (upd H d u) s:=by
 have neH:∀b o,H b=some o->(∀o' u',o≠.frz o' u')->b≠d:=λb o e hne z=>by rw[z,h]at e;cases e;exact hne _ _ rfl
 have neN:∀b,H b=none->b≠d:=λb e z=>by rw[z,h]at e;cases e
 refine⟨I.ok,I.os,I.bare,⟨I.base.keep,I.base.slot,λb o e n hx=>?_,I.base.there,λb xs e=>?_,λb o x e=>?_,λb ps e=>?_⟩,I.loc,I.cell,?_,λx c e=>?_,λp hp=>?_,λb o e=>?_,I.len⟩
 .rw[ah (neN b (I.base.free b o e n hx))];exact I.base.free b o e n hx
 .have q:=I.base.tups b xs e;rw[ah (neH b _ q (λ_ _ z=>nomatch z))];exact q
 .have q:=I.base.frzs b o x e;rw[ah (λz=>by rw[z]at e;exact hn _ _ e)];exact q
 .obtain⟨m,q⟩:=I.base.tbls b ps e;exact⟨m,by rw[ah (neH b _ q (λ_ _ z=>nomatch z))];exact q⟩
 .rw[ah (neN _ I.free)];exact I.free
 .rw[ah (neN c (I.freeC x c e))];exact I.freeC x c e
 .obtain⟨e,n,r⟩:=I.pin p hp;exact⟨e,by rw[ah (neN _ n)];exact n,r⟩
 .by_cases hb:b=d
  .rw[hb,ac]at e;cases e;rw[hb];obtain⟨_,x⟩:=I.hok d _ h;exact x.stay (λc v _ q=>q) (λc q=>by rw[ah (neH c _ q (λ_ _ z=>nomatch z))];exact q) λc xs q=>by rw[ah (neH c _ q (λ_ _ z=>nomatch z))];exact q
  .rw[ah hb]at e;exact(I.hok b o e).stay (λc v _ q=>q) (λc q=>by rw[ah (neH c _ q (λ_ _ z=>nomatch z))];exact q) λc xs q=>by rw[ah (neH c _ q (λ_ _ z=>nomatch z))];exact q
end
def Dv (t:TS):TS:=λD σ H=>∃d u,H d=some u/\Di (some u)/\∀od,t ⟨λσ' H'=>H' d=some (.frz od u)/\D.nx σ' (upd H' d u),λv H'=>H' d=some (.frz od u)/\D.rt v (upd H' d u),λσ' H'=>H' d=some (.frz od u)/\D.bk σ' (upd H' d u),λσ' H'=>H' d=some (.frz od u)/\D.ct σ' (upd H' d u)⟩ σ (upd H d (.frz od u))
section
variable {X:Cx}
theorem xa {st:Stmt}{t:TS}(h:PS X st t):PS X st (Dv t):=by
 intro pins s σ H D I hw;obtain⟨d,u,hd,mu,hw⟩:=hw;obtain⟨od,I1⟩:=I.lock hd mu;refine cx (h pins s σ _ _ I1 (hw od)) λf s1 q=>?_;cases f with
 |next=>obtain⟨σ',H',I2,e,q⟩:=q;exact⟨σ',_,I2.unlock e (I.nofrz hd mu),q⟩
 |brk=>obtain⟨σ',H',I2,e,q⟩:=q;exact⟨σ',_,I2.unlock e (I.nofrz hd mu),q⟩
 |cont=>obtain⟨σ',H',I2,e,q⟩:=q;exact⟨σ',_,I2.unlock e (I.nofrz hd mu),q⟩
 |ret v=>obtain⟨x,σ',H',I2,r,e,q⟩:=q;exact⟨x,σ',_,I2.unlock e (I.nofrz hd mu),r,q⟩
theorem mh {tg:Expr}{pins:List (Addr×Obj)}{σ:St}{H:Hp}{s:Shared}{R:It->Hp->Prop}{J:It}{tn:Nat->Heap->Prop}{tk:Nat}(I:aH X pins σ H s)(o:Obj)
  (T:nv X.prog X.w X.K tg J [s.heap.objs.size] s.heap.objs.size tn) (st:tn 0 (s.heap.push o)) (q:R J H):Gj X pins σ tg R (.ref s.heap.objs.size) { s with heap:=s.heap.push o,toks:=tk }:=by
 refine⟨s.heap.objs.size,[s.heap.objs.size],tn,J,H,rfl,I.kept λb ob e=>get?_push_of_some _ e,T,st,λb hb=>?_,q⟩;have e:b=s.heap.objs.size:=by simpa using hb
 subst e;exact I.fpOk (Nat.le_refl _) (I.hok.fresh (Nat.le_refl _))
end
def Gc (lo c:Int)(n:Nat):It:=⟨λi _=>i<n,λi H x H'=>H'=H/\x = .int (lo+(i:Nat)*c),λi _=>n<=i⟩
theorem uj {P:Program}{w:World}{K:PySem.W.Frag}{tg:Expr}(it:Addr)(lo c:Int)(n:Nat):nv P w K tg (Gc lo c n) [it] it (λi h=>IsRangeIter h it (lo+(i:Nat)*c) ((n:Int)-(i:Nat)) c) where
 mem:=by simp
 obj:=λi h st b hb=>by
  have e:b=it:=by simpa using hb
  subst e;exact⟨_,st,λv z=>nomatch z⟩
 keep:=λi h h' st k=>k it (by simp) _ st
 item:=by intro X hP hw hK hc i pins s σ H E I hf st hg;subst hP hw hK;obtain⟨f0,f1,f2,f3,f4,f5⟩:=hf it (by simp);have W:=Walks.range (prog:=X.prog) (w:=X.w) (I.ok.hd hc) it lo c n;refine W.item i s _ _ hg st λv h' tk hv st' kk=>?_;obtain⟨t,rfl⟩:=hv;have I1:aH X pins σ H { s with heap:=h',toks:=tk }:=I.turned (λb o hb e=>kk b o (by simpa using hb) e) f0 f1 f3 f4 f5;exact⟨_,rfl,mN (s:={ s with heap:=h',toks:=tk }) (n := "range_iterator") st' rfl rfl (by decide) ⟨.int (lo+(i:Nat)*c),H,I1,⟨t,rfl⟩,⟨rfl,rfl⟩,st',λb hb=>(hf b hb).1⟩⟩
 done:=by intro X hP hw hK hc i pins s σ H E I hf st hg;subst hP hw hK;obtain⟨f0,f1,f2,f3,f4,f5⟩:=hf it (by simp);exact wpAny_pyNext_range_end (I.ok.hd hc) st (by have:n<=i:=hg;omega) λh' eb=>⟨rfl,I.turned (t':=s.toks) (λb o hb e=>eb b o hb e) f0 f1 f3 f4 f5⟩
 self:=λA i s Q E st h=>wpAny_pyIter_rangeiter st h
def Gw (i j c:Int)(n:Nat):Prop:=c≠0/\c.natAbs<1073741824/\Builtin.Range.small i j c=true/\Builtin.Range.rangeSize i j c=n
def Dx (ta:TA):TI:=λσ H R=>ta σ H λvs H1=>∃(i j c:Int) (n:Nat),vs=[.int i,.int j,.int c]/\Gw i j c n/\R (Gc i c n) H1
section
variable {X:Cx}{tg:Expr}
theorem yl {a b c:Expr}{ta:TA}{p pos:Pos}(hg:Gl X "range")(hm:X.mg "range"=none)(ha:PA X [a,b,c] ta)
  (hs:starEach [a,b,c] X.env=(false,eval a X.env)::starEach [b,c] X.env:=by rfl) (hpl:(backTo pos (starEach [b,c] X.env)).any (·.1)=false:=by rfl) :
  PI X tg (.Call (.Name "range" p) [a,b,c] [] pos) (Dx ta):=by
 intro pins s σ H R I h;refine Call_ (iK I hg hm boot_range (PyProof.Rows.callWith_type1 (cx (ha pos pins s σ H _ I h) λus s1 ⟨vs,H1,I1,r1,q1⟩=>?_) hs hpl));obtain⟨i,j,k,n,e,⟨c0,c1,c2,c3⟩,q⟩:=q1;subst e;cases r1 with
 |cons r rr=>
  cases rr with
  |cons r' rr=>
   cases rr with
   |cons r'' rr=>
    cases rr;obtain⟨t,rfl⟩:=r;obtain⟨t',rfl⟩:=r';obtain⟨t'',rfl⟩:=r'';refine call_range_3 c0 ?_ (.inl (PyProof.noPylong_small c1));refine wpAny_pyIter_range (IsRange.new ..) c2 ?_;have I2:aH X pins σ H1 { s1 with heap:=s1.heap.push { cls:=.type "range",data:=.fields #[.int i t,.int j t',.int k t''] } }:=I1.kept (t':=s1.toks) λb o e=>get?_push_of_some _ e;refine mh (tk:=s1.toks) I2 _ (uj _ i k n) ?_ q;have e1:i+((0:Nat):Int)*k=i:=by simp
    have e2:(n:Int)-((0:Nat):Int)=Builtin.Range.rangeSize i j k:=by rw[c3];simp
    show IsRangeIter _ _ (i+((0:Nat):Int)*k) ((n:Int)-((0:Nat):Int)) k;rw[e1,e2];exact get?_push_size _ rfl
end
section
variable {X:Cx}{tg:Expr}
end
def Gd (x:Str):It:=⟨λi _=>i<x.cps.size,λi H v H'=>H'=H/\∃c,x.cps[i]?=some c/\v = .str ⟨#[c]⟩,λi _=>x.cps.size<=i⟩
theorem uk {P:Program}{w:World}{K:PySem.W.Frag}{tg:Expr}(it:Addr)(x:Str)(t:Tok)(ty:String)(hty:ty = "str_ascii_iterator"\/ty = "str_iterator") :
  nv P w K tg (Gd x) [it] it (λi h=>h.IsStrIter it ty x t i) where
 mem:=by simp
 obj:=λi h st b hb=>by
  have e:b=it:=by simpa using hb
  subst e;obtain⟨o,e,c,d⟩:=st;exact⟨o,e,λv z=>by rw[d]at z;cases z⟩
 keep:=λi h h' st k=>let ⟨o,ho,r⟩:=st;⟨o,k it (by simp) o ho,r⟩
 item:=by
  intro X hP hw hK hc i pins s σ H E I hf st hg;subst hP hw hK;obtain⟨f0,f1,f2,f3,f4,f5⟩:=hf it (by simp);have W:Walks X.prog X.w X.A it [it] [it] x.cps.size (SignAt x) (λi h=>h.IsStrIter it ty x t i):=by
   rcases hty with e|e
   .rw[e];exact Walks.strAscii (I.ok.hd hc) it x t
   .rw[e];exact Walks.strWide (I.ok.hd hc) it x t
  have hno:["enumerate","zip","dict_itemiterator","dict_reverseitemiterator","odict_iterator","itertools.zip_longest","itertools.pairwise"].contains ty=false:=by
   rcases hty with e|e
   .rw[e];decide
   .rw[e];decide
  refine W.item i s _ _ hg st λv h' tk hv st' kk=>?_;obtain⟨c,u,hcx,rfl⟩:=hv;have I1:aH X pins σ H { s with heap:=h',toks:=tk }:=I.turned (λb o hb e=>kk b o (by simpa using hb) e) f0 f1 f3 f4 f5;obtain⟨oi,e,cc,dd⟩:=id st';exact⟨_,rfl,mN (s:={ s with heap:=h',toks:=tk }) e cc dd hno ⟨.str ⟨#[c]⟩,H,I1,⟨u,rfl⟩,⟨rfl,c,hcx,rfl⟩,st',λb hb=>(hf b hb).1⟩⟩
 done:=by
  intro X hP hw hK hc i pins s σ H E I hf st hg;subst hP hw hK;obtain⟨f0,f1,f2,f3,f4,f5⟩:=hf it (by simp);have hx:x.cps[i]?=none:=Array.getElem?_eq_none hg;rcases hty with e|e
  .rw[e]at st;exact wpAny_pyNext_ascii_end (I.ok.hd hc) st hx λh' eb=>⟨rfl,I.turned (t':=s.toks) (λb o hb e=>eb b o hb e) f0 f1 f3 f4 f5⟩
  .rw[e]at st;exact wpAny_pyNext_wide_end (I.ok.hd hc) st hx λh' eb=>⟨rfl,I.turned (t':=s.toks) (λb o hb e=>eb b o hb e) f0 f1 f3 f4 f5⟩
 self:=λA i s Q E st h=>by
  rcases hty with e|e
  .rw[e]at st;exact wpAny_pyIter_striter_ascii st h
  .rw[e]at st;exact wpAny_pyIter_striter_wide st h
def Ft (te:TE):TI:=λσ H R=>te σ H λv H1=>∃x,v = .str x/\R (Gd x) H1
theorem Ep {X:Cx}{tg e:Expr}{te:TE}(he:PE X e te):PI X tg e (Ft te):=by
 intro pins s σ H R I h;refine cx (he pins s σ H _ I h) λv s1 ⟨y,H1,I1,r1,x,ex,q⟩=>?_;subst ex;obtain⟨t,rfl⟩:=r1;cases ha:x.cps.all (·<128)
 .exact wpAny_pyIter_wide ha (mh (tk:=s1.toks) I1 _ (uk _ x t "str_iterator" (.inr rfl)) ⟨_,get?_push_size _ rfl,rfl,rfl⟩ q)
 .exact wpAny_pyIter_ascii ha (mh (tk:=s1.toks) I1 _ (uk _ x t "str_ascii_iterator" (.inl rfl)) ⟨_,get?_push_size _ rfl,rfl,rfl⟩ q)
section
variable {prog:Program}{w:World}{A:Around}{E:Value->Shared->Prop}{s:Shared}
theorem mi {d:Addr}{o:Obj}{es:Array DictEntry}{ep:Nat}{Q:Value->Shared->Prop}(hd:(d==sysModules)=false)(ho:s.heap.get? d=some o)(hc:o.ExactDict)(hdat:o.data = .dict es ep)
  (hQ:Q (.ref s.heap.objs.size) { s with heap:=s.heap.push { cls:=.type "dict_keyiterator",data:=.fields #[.ref d,.int 0 0,.int es.size 0,.int ep 0] } }) :
  wpAny (model prog w) A (pyIter (.ref d)) Q E s:=by
 have hT:s.TypeIs (.ref d) "dict":=⟨o,ho,hc.1⟩
 refine wpAny_pyIter_slot hT F.slot_dict_iter (wpAny_call_entry F.slot_dict_iter hT F.entry_dict_iter ?_ (F.args_dict_iter_1 _));unfold Builtin.«dict.__iter__»;refine wpAny_bind ?_;unfold Builtin.Dict.dictSlotNone;refine wpAny_bind (wpAny_notOrdered_dict hT ?_);show wpAny _ _ (pure (Value.ref d)) _ _ s;refine wpAny_pure ?_;show wpAny _ _ (Builtin.Dict.showsAll d >>= _) _ _ s;unfold Builtin.Dict.showsAll;rw[if_neg (by rw[hd];exact Bool.false_ne_true)];refine wpAny_bind (wpAny_pure ?_);refine wpAny_bind (wpAny_dictEntries ho hdat ?_);refine wpAny_bind (wpAny_dictEpoch ho hdat ?_);refine wpAny_bind (wpAny_newObj_type (wpAny_pure ⟨_,rfl,"dict_keyiterator",_,⟨_,get?_push_size _ rfl,rfl⟩,F.slot_dict_keyiterator_next.lookup,?_⟩));simpa [rawInt]using hQ
theorem pV {it d:Addr}{i n ep:Nat}{od:Obj}{es:Array DictEntry}{en:DictEntry}{Q:Option Value->Shared->Prop}(hit:s.heap.IsKeyIter it d i n ep)(hod:s.heap.get? d=some od)(hdd:od.data = .dict es ep)
  (hsz:es.size=n) (hx:es[i]?=some en) (hQ:∀h',h'.IsKeyIter it d (i+1) n ep->SameBut it s.heap h'->Q (some en.key) { s with heap:=h' }):wpAny (model prog w) A (pyNext (.ref it)) Q E s:=by
 obtain⟨o,ho,hc,hd⟩:=id hit;unfold pyNext;refine wpAny_bind (wpAny_attempt (wpAny_callSpecial?_slot (name:=Str.ofString "__next__") hit.typeIs F.slot_dict_keyiterator_next (wpAny_call_entry F.slot_dict_keyiterator_next hit.typeIs F.entry_dict_keyiterator_next ?_ (F.args_dict_keyiterator_next_1 _))));refine wpAny_bind (wpAny_pure ?_);refine wpAny_bind ?_;refine wpAny_bind ?_
 first|refine wpAny_bind (wpAny_typeNameOfWhole_keyiter hit.typeIs (wpAny_pure ?_))|refine wpAny_bind (wpAny_typeNameOf_keyiter hit.typeIs (wpAny_pure ?_))
 refine wpAny_bind (wpAny_fieldsOf ho hd ?_);have hown:Builtin.Dict_items.ownsTuple "dict_keyiterator"=false:=by decide
 simp only[hown,Bool.false_eq_true,if_false];show wpAny _ _ (if (Value.ref d==Value.none)=true then _ else _) _ _ s;rw[if_neg (show¬((Value.ref d==Value.none)=true)from Bool.false_ne_true)];refine wpAny_bind (wpAny_pure ?_);refine wpAny_bind (wpAny_dictEntries hod hdd ?_);rw[if_neg (by rw[hsz];simp)];refine wpAny_bind (wpAny_pure ?_);refine wpAny_bind (wpAny_dictEpoch hod hdd ?_);rw[if_neg (by simp)];refine wpAny_pure ?_;obtain⟨hlt',hen⟩:=Array.getElem?_eq_some_iff.mp hx;simp only[show¬((i:Int)<0)from by omega,if_false,toNat_natCast,Array.getElem?_eq_getElem hlt'];refine wpAny_bind ?_
 first|refine wpAny_bind (wpAny_typeNameOfWhole_keyiter hit.typeIs (wpAny_pure ?_))|refine wpAny_bind (wpAny_typeNameOf_keyiter hit.typeIs (wpAny_pure ?_))
 refine wpAny_bind (wpAny_isOneOf_keyiter hit.typeIs ?_);show wpAny _ _ (setField (.ref it) 1 (rawInt ((i:Int)+1)) >>= _) _ _ s;refine wpAny_bind (wpAny_setField ho hd (by simp) ?_);have hit':(s.heap.update it (Obj.mapFields (·.setIfInBounds 1 (rawInt ((i:Int)+1))))).IsKeyIter it d (i+1) n ep:=⟨_,Heap.get?_update_self _ ho (Obj.isFreed_of_fields (Obj.data_mapFields hd _)),(Obj.cls_mapFields ..).trans hc,by rw[Obj.data_mapFields hd];simp[rawInt]⟩
 refine wpAny_bind (wpAny_holding ?_);refine wpAny_bind (wpAny_isOneOf_keyiter (s:={ s with heap:=s.heap.update it (Obj.mapFields (·.setIfInBounds 1 (rawInt ((i:Int)+1)))) }) hit'.typeIs ?_);show wpAny _ _ (pure es[i].key) _ _ _;rw[hen];exact wpAny_pure (wpAny_pure ⟨_,rfl,wpAny_pure (hQ _ hit' (SameBut.update ..))⟩)
theorem iM {it d:Addr}{i n ep:Nat}{od:Obj}{es:Array DictEntry}{Q:Option Value->Shared->Prop}(hh:A.handled=none)(hit:s.heap.IsKeyIter it d i n ep)(hod:s.heap.get? d=some od)(hdd:od.data = .dict es ep)
  (hsz:es.size=n) (hge:n<=i) (hQ:∀h',Heap.ExtBut it s.heap h'->Q none { s with heap:=h' }):wpAny (model prog w) A (pyNext (.ref it)) Q E s:=by
 obtain⟨o,ho,hc,hd⟩:=id hit;unfold pyNext;refine wpAny_bind (wpAny_attempt (wpAny_callSpecial?_slot (name:=Str.ofString "__next__") hit.typeIs F.slot_dict_keyiterator_next (wpAny_call_entry F.slot_dict_keyiterator_next hit.typeIs F.entry_dict_keyiterator_next ?_ (F.args_dict_keyiterator_next_1 _))));refine wpAny_bind (wpAny_pure ?_);refine wpAny_bind ?_;refine wpAny_bind ?_
 first|refine wpAny_bind (wpAny_typeNameOfWhole_keyiter hit.typeIs (wpAny_pure ?_))|refine wpAny_bind (wpAny_typeNameOf_keyiter hit.typeIs (wpAny_pure ?_))
 refine wpAny_bind (wpAny_fieldsOf ho hd ?_);have hown:Builtin.Dict_items.ownsTuple "dict_keyiterator"=false:=by decide
 simp only[hown,Bool.false_eq_true,if_false];show wpAny _ _ (if (Value.ref d==Value.none)=true then _ else _) _ _ s;rw[if_neg (show¬((Value.ref d==Value.none)=true)from Bool.false_ne_true)];refine wpAny_bind (wpAny_pure ?_);refine wpAny_bind (wpAny_dictEntries hod hdd ?_);rw[if_neg (by rw[hsz];simp)];refine wpAny_bind (wpAny_pure ?_);refine wpAny_bind (wpAny_dictEpoch hod hdd ?_);rw[if_neg (by simp)];refine wpAny_pure ?_;have hge':es.size<=i:=by rw[hsz];exact hge
 simp only[show¬((i:Int)<0)from by omega,if_false,toNat_natCast,Array.getElem?_eq_none hge'];refine wpAny_bind ?_
 first|refine wpAny_bind (wpAny_typeNameOfWhole_keyiter hit.typeIs (wpAny_pure ?_))|refine wpAny_bind (wpAny_typeNameOf_keyiter hit.typeIs (wpAny_pure ?_))
 show wpAny _ _ (setField (.ref it) 0 .none >>= _) _ _ s;refine wpAny_bind (wpAny_setField ho hd (by simp) ?_);show wpAny _ _ (newExc (.type "StopIteration") [] >>= _) _ _ _;refine wpAny_bind ?_;simp only[newExc,newTuple];refine wpAny_bind (wpAny_newObj_type ?_ (by size_fits));refine wpAny_bind (m:=firstArgMember _ _) (wpAny_of_eq (a:=Value.none) (by first|rfl|(simp only[firstArgMember];rfl)) ?_);refine wpAny_newObj_type ?_ (by size_fits);simp only[raiseNew];refine wpAny_bind (wpAny_handled ?_);rw[show A.in1.handled=none from hh];refine wpAny_bind (wpAny_pure (wpAny_throw ?_));refine wpAny_bind (wpAny_isInstance (T := "StopIteration") (b:=true) ⟨_,get?_push_size _ rfl,rfl⟩ isSubtype_stop ?_);exact wpAny_pure (hQ _ (((SameBut.update ..).extBut.push _).push _))
end
theorem zZ {κ:Type}{kvs:List (κ×V)}{vs:List (κ×Value)}(h:KV kvs vs):∀{i:Nat} {k:κ} {v:V},kvs[i]?=some (k,v)->∃u,vs[i]?=some (k,u)/\bI v u:=by
 unfold KV at h
 induction h with
 |nil=>intro i k v e;simp at e
 |@cons a b l₁ l₂ r t ih=>
  intro i k v e;cases i with
  |zero=>
   simp only[List.getElem?_cons_zero,Option.some.injEq]at e;subst e;refine⟨b.2,?_,r.2⟩;simp only[List.getElem?_cons_zero];exact congrArg some (Prod.ext r.1.symm rfl)
  |succ j=>
   simp only[List.getElem?_cons_succ]at e ⊢;exact ih e
theorem vN {α β:Type}{G:α->β->Prop}{l₁:List α}{l₂:List β}(h:Paired G l₁ l₂):∀{i:Nat} {a:α},l₁[i]?=some a->∃b,l₂[i]?=some b/\G a b:=by
 induction h with
 |nil=>intro i a e;simp at e
 |@cons a b l₁ l₂ r t ih=>
  intro i a' e;cases i with
  |zero=>
   simp only[List.getElem?_cons_zero,Option.some.injEq]at e;subst e;exact⟨b,rfl,r⟩
  |succ j=>
   simp only[List.getElem?_cons_succ]at e ⊢;exact ih e
theorem ul {k:cT}{u:Value}(h:kj k u=true):bI (kV k) u:=by
 rcases cu h with⟨i,t,rfl,rfl⟩|⟨x,t,rfl,rfl⟩
 .exact⟨t,rfl⟩
 .exact⟨t,rfl⟩
section
variable {X:Cx}{pins:List (Addr×Obj)}{σ:St}{H:Hp}{s:Shared}{d:Addr}{o:Obj}
theorem aH.frzK {kvs:List (cT×V)}(I:aH X pins σ H s)(h:H d=some (.frz o (.dK kvs))) :
  (d==sysModules)=false/\s.heap.get? d=some o/\o.ExactDict/\∃(es:Array DictEntry) (ep:Nat) (vs:List (cT×Value)),o.data = .dict es ep/\es.size=kvs.length/\KV kvs vs/\s.heap.DictAt (bM X.prog X.w) d vs ep:=by
 obtain⟨hd,z,hs,vs,kv,o',es,ep,ho,hx,hdt,r⟩:=I.hok d _ h;rw[hd]at ho;cases ho;refine⟨hs,hd,hx,es,ep,vs,hdt,?_,kv,o,es,hd,hx,hdt,r⟩;have l1:=r.2.1.length;have l2:kvs.length=vs.length:=Paired.length kv;rw[length_toList]at l1;omega
theorem aH.frzT {kvs:List (List cT×V)}(I:aH X pins σ H s)(h:H d=some (.frz o (.dT kvs))) :
  (d==sysModules)=false/\s.heap.get? d=some o/\o.ExactDict/\∃(es:Array DictEntry) (ep:Nat),o.data = .dict es ep/\es.size=kvs.length/\
   ∀(i:Nat) (k:List cT) (v:V),kvs[i]?=some (k,v)->∃(en:DictEntry) (q:Addr),es[i]?=some en/\en.key = .ref q/\H q=some (.tup (k.map kV)):=by
 obtain⟨hd,z,hs,xs,pr,o',es,ep,ho,hx,hdt,he,_⟩:=I.hok d _ h;rw[hd]at ho;cases ho;refine⟨hs,hd,hx,es,ep,hdt,?_,λi k v e=>?_⟩
 .have l1:es.size=xs.length:=size_of_entries he;have l2:kvs.length=xs.length:=Paired.length pr;omega
 .obtain⟨b,hb,e1,e2,_⟩:=vN pr e;have q:=entry_at he i;rw[hb]at q;exact⟨_,b.2.1,q,rfl,e2⟩
end
def Fu (d:Addr)(o:Obj)(kvs:List (cT×V)):It:=⟨λi H=>H d=some (.frz o (.dK kvs))/\i<kvs.length,λi H x H'=>H'=H/\∃k v,kvs[i]?=some (k,v)/\x=kV k,λi H=>H d=some (.frz o (.dK kvs))/\kvs.length<=i⟩
def Er (d:Addr)(o:Obj)(kvs:List (List cT×V)):It:=⟨λi H=>H d=some (.frz o (.dT kvs))/\i<kvs.length,λi H x H'=>H'=H/\∃(k:List cT) (v:V) (q:Addr),kvs[i]?=some (k,v)/\x = .ref q/\H q=some (.tup (k.map kV)),λi H=>H d=some (.frz o (.dT kvs))/\kvs.length<=i⟩
theorem nO {o:Obj}{es es':Array DictEntry}{ep ep':Nat}(h:o.data = .dict es ep)(h':o.data = .dict es' ep'):es'=es/\ep'=ep:=by rw[h]at h';cases h';exact⟨rfl,rfl⟩
section
variable {P:Program}{w:World}{K:PySem.W.Frag}{tg:Expr}{d:Addr}{o:Obj}{es:Array DictEntry}{ep:Nat}
theorem ym {kvs:List (cT×V)}(it:Addr)(hod:o.data = .dict es ep):nv P w K tg (Fu d o kvs) [it] it (λi h=>h.IsKeyIter it d i kvs.length ep) where
 mem:=by simp
 obj:=λi h st b hb=>by
  have e:b=it:=by simpa using hb
  subst e;obtain⟨oi,e,c,dd⟩:=st;exact⟨oi,e,λv z=>by rw[dd]at z;cases z⟩
 keep:=λi h h' st k=>st.at λoi e=>k it (by simp) oi e
 item:=by
  intro X hP hw hK hc i pins s σ H E I hf st hg;subst hP hw hK;obtain⟨hd,hi⟩:=hg;obtain⟨f0,f1,f2,f3,f4,f5⟩:=hf it (by simp);obtain⟨hs,hgd,hx,es',ep',vs,hdt,hsz,kv,hm⟩:=I.frzK hd;obtain⟨rfl,rfl⟩:=nO hod hdt;obtain⟨⟨k,v⟩,hkv⟩:∃p,kvs[i]?=some p:=⟨kvs[i],List.getElem?_eq_getElem hi⟩
  obtain⟨u,hu,ru⟩:=zZ kv hkv;have hl:kvs.length=vs.length:=Paired.length kv;rw[hl]at st;refine wpAny_pyNext_dict_item st hm hu λkey h' hkey st' sb=>?_;have I1:aH X pins σ H { s with heap:=h' }:=I.turned (t':=s.toks) (λb ob hb e=>(sb.2 b hb).trans e) f0 f1 f3 f4 f5;obtain⟨oi,e,c,dd⟩:=id st';refine⟨key,rfl,mN (s:={ s with heap:=h' }) e c dd (by decide) ⟨kV k,H,I1,ul (show kj k key=true from hkey),⟨rfl,k,v,hkv,rfl⟩,?_,λb hb=>(hf b hb).1⟩⟩;show h'.IsKeyIter it d (i+1) kvs.length _;rw[hl];exact st'
 done:=by intro X hP hw hK hc i pins s σ H E I hf st hg;subst hP hw hK;obtain⟨hd,hi⟩:=hg;obtain⟨f0,f1,f2,f3,f4,f5⟩:=hf it (by simp);obtain⟨hs,hgd,hx,es',ep',vs,hdt,hsz,kv,hm⟩:=I.frzK hd;obtain⟨rfl,rfl⟩:=nO hod hdt;exact iM (I.ok.hd hc) st hgd hdt hsz hi λh' eb=>⟨rfl,I.turned (t':=s.toks) (λb ob hb e=>eb b ob hb e) f0 f1 f3 f4 f5⟩
 self:=λA i s Q E st h=>wpAny_pyIter_keyiter st h
theorem vO {kvs:List (List cT×V)}(it:Addr)(hod:o.data = .dict es ep):nv P w K tg (Er d o kvs) [it] it (λi h=>h.IsKeyIter it d i kvs.length ep) where
 mem:=by simp
 obj:=λi h st b hb=>by
  have e:b=it:=by simpa using hb
  subst e;obtain⟨oi,e,c,dd⟩:=st;exact⟨oi,e,λv z=>by rw[dd]at z;cases z⟩
 keep:=λi h h' st k=>st.at λoi e=>k it (by simp) oi e
 item:=by
  intro X hP hw hK hc i pins s σ H E I hf st hg;subst hP hw hK;obtain⟨hd,hi⟩:=hg;obtain⟨f0,f1,f2,f3,f4,f5⟩:=hf it (by simp);obtain⟨hs,hgd,hx,es',ep',hdt,hsz,ent⟩:=I.frzT hd;obtain⟨rfl,rfl⟩:=nO hod hdt;obtain⟨⟨k,v⟩,hkv⟩:∃p,kvs[i]?=some p:=⟨kvs[i],List.getElem?_eq_getElem hi⟩
  obtain⟨en,q,hen,hkey,hq⟩:=ent i k v hkv;refine pV st hgd hdt hsz hen λh' st' sb=>?_;have I1:aH X pins σ H { s with heap:=h' }:=I.turned (t':=s.toks) (λb ob hb e=>(sb.2 b hb).trans e) f0 f1 f3 f4 f5;obtain⟨oi,e,c,dd⟩:=id st';exact⟨en.key,rfl,mN (s:={ s with heap:=h' }) e c dd (by decide) ⟨.ref q,H,I1,hkey,⟨rfl,k,v,q,hkv,rfl,hq⟩,st',λb hb=>(hf b hb).1⟩⟩
 done:=by intro X hP hw hK hc i pins s σ H E I hf st hg;subst hP hw hK;obtain⟨hd,hi⟩:=hg;obtain⟨f0,f1,f2,f3,f4,f5⟩:=hf it (by simp);obtain⟨hs,hgd,hx,es',ep',hdt,hsz,ent⟩:=I.frzT hd;obtain⟨rfl,rfl⟩:=nO hod hdt;exact iM (I.ok.hd hc) st hgd hdt hsz hi λh' eb=>⟨rfl,I.turned (t':=s.toks) (λb ob hb e=>eb b ob hb e) f0 f1 f3 f4 f5⟩
 self:=λA i s Q E st h=>by refine wpAny_pyIter_slot st.typeIs F.slot_dict_keyiterator_iter (wpAny_call_entry F.slot_dict_keyiterator_iter st.typeIs F.entry_dict_keyiterator_iter ?_ (F.args_dict_keyiterator_iter_1 _));show wpAny _ _ (ret (.ref it)) _ _ s;exact wpAny_pure ⟨_,rfl,"dict_keyiterator",_,st.typeIs,F.slot_dict_keyiterator_next.lookup,h⟩
end
def Dy (td:TE):TI:=λσ H R=>td σ H λx H1=>∃d o,x = .ref d/\((∃kvs,H1 d=some (.frz o (.dK kvs))/\R (Fu d o kvs) H1)\/∃kvs,H1 d=some (.frz o (.dT kvs))/\R (Er d o kvs) H1)
section
variable {X:Cx}{tg e:Expr}{td:TE}{apos cpos:Pos}
theorem xb (he:PE X e td):PI X tg e (Dy td):=by
 intro pins s σ H R I h;refine cx (he pins s σ H _ I h) λu s1 ⟨x,H1,I1,rx,d,o,ex,q⟩=>?_;subst ex;obtain rfl:u=Value.ref d:=rx;rcases q with⟨kvs,hd,q⟩|⟨kvs,hd,q⟩
 .obtain⟨hs,hgd,hx,es,ep,vs,hdt,hsz,kv,hm⟩:=I1.frzK hd;refine mi hs hgd hx hdt (mh (tk:=s1.toks) I1 _ (ym _ hdt) ⟨_,get?_push_size _ rfl,rfl,?_⟩ q);rw[hsz]<;>rfl
 .obtain⟨hs,hgd,hx,es,ep,hdt,hsz,ent⟩:=I1.frzT hd;refine mi hs hgd hx hdt (mh (tk:=s1.toks) I1 _ (vO _ hdt) ⟨_,get?_push_size _ rfl,rfl,?_⟩ q);rw[hsz]<;>rfl
end
theorem yn:bootBuiltins "zip"=some (.type "zip"):=by decide +kernel
end L2
section
namespace Bits
open PyProof.Rows
end Bits
end
section
namespace TL
open PySem.Builtin PySem.Builtin.Str PySem.StrLaws
abbrev tl (x:Str):List Nat:=x.cps.toList
theorem len_tl (x:Str):x.length=(tl x).length:=by simp[tl,Str.length]
theorem qD (x y:Str):tl (x++y)=tl x++tl y:=by show(x++y).cps.toList=_;rw[Str.cps_append,Array.toList_append]
def eZ (S:List Nat):List (List Nat)->List Nat
 |[]=>[]
 |[p]=>p
 |p::q::r=>p++(S++eZ S (q::r))
theorem rY (y:Str):∀parts:List Str,tl (Str.join y parts)=eZ (tl y) (parts.map tl)
 |[]=>rfl
 |[_]=>rfl
 |x::z::r=>by show tl (x++y++Str.join y (z::r))=tl x++(tl y++eZ (tl y) ((z::r).map tl));rw[qD,qD,rY y (z::r),List.append_assoc]
theorem join_eq (y:Str)(parts:List Str):Txt.join y parts=Str.join y parts:=glued_eq_join y parts
def io (n:Nat):List Nat:=(toDigits 10 n).map Char.toNat
theorem z0 (n:Nat):tl (Str.ofString (toString ((n:Nat):Int)))=io n:=PySem.W.KIN.signs_num n
theorem ko:∀d:Nat,d<10->(Nat.digitChar d).toNat=48+d:=by decide
theorem Ck {n:Nat}(h:n<10):io n=[48+n]:=by unfold io;rw[Nat.toDigits_of_lt_base h];show[(Nat.digitChar n).toNat]=_;rw[ko n h]
theorem yo {n:Nat}(h:10<=n):io n=io (n / 10)++[48+n%10]:=by have hm:n%10<10:=Nat.mod_lt n (by decide);have t:toDigits 10 (n / 10)++toDigits 10 (n%10)=toDigits 10 (10*(n / 10)+n%10):=Nat.toDigits_append_toDigits (by decide) (by omega) hm;rw[Nat.div_add_mod]at t;show(toDigits 10 n).map Char.toNat=_;rw[<- t,map_append,Nat.toDigits_of_lt_base hm];show(toDigits 10 (n / 10)).map Char.toNat++[(Nat.digitChar (n%10)).toNat]=_;rw[ko _ hm]<;>rfl
theorem um (n:Nat):NumText.AllDigits (io n):=by
 induction n using Nat.strongRecOn with
 |_ n ih=>
  by_cases h:n<10
  .rw[Ck h];intro c hc;rw[mem_singleton.mp hc];omega
  .rw[yo (by omega)];intro c hc;rcases mem_append.mp hc with hc|hc
   .exact ih (n / 10) (by omega) c hc
   .have hm:n%10<10:=Nat.mod_lt n (by decide);rw[mem_singleton.mp hc];omega
theorem z9 {n k:Nat}(hk:0<k)(h:n<10^k):(io n).length<=k:=by
 have z:=PyProof.Rows.toString_length_le (v:=(n:Int)) (by omega) hk (by
  have e:((10:Int)^k)=((10^k:Nat):Int):=by
   first
    |exact(Int.natCast_pow 10 k).symm
    |simp
  rw[e]
  first|exact Int.ofNat_lt.mpr h|omega)
 rw[len_tl,z0]at z;exact z
end TL
end
namespace L2
open PyProof.Rows
theorem iN:∀{ys:List Str} {us:List Value},bn (ys.map V.str) us->StrsAre us ys
 |[],_,.nil=>.nil
 |y::ys,_,.cons r t=>by obtain⟨k,rfl⟩:=r;exact .cons y k (iN t)
section
variable {X:Cx}{pins:List (Addr×Obj)}{σ:St}{H:Hp}{s:Shared}{Q:VK}
end
section
variable {X:Cx}
theorem Cm:Go X "str.join" (λx xs H Q=>∃a p,∃ys:List Str,x = .str a/\xs=[.ref p]/\(aR X.K H p (ys.map V.str)\/eB X.K H p (ys.map V.str))/\ (ys.map (·.length)).sum+ys.length*a.length<=16777216/\Q (.str (Txt.join a ys)) H):=by
 intro pins s σ H x xs v us Q I rx rs h;obtain⟨a,p,ys,rfl,rfl,hp,hz,h⟩:=h;obtain⟨t,rfl⟩:=rx;cases rs with
 |cons r1 rs=>
  cases rs;cases r1;rcases hp with hp|hp
  .obtain⟨its,r,⟨o,n,ho,hc,_,hd⟩,_⟩:=I.list hp;exact PyProof.Rows.join_list (items:=its.toArray) ⟨o,ho,hc,n,hd⟩ (by rw[List.toList_toArray];exact iN r) hz λt' k=>⟨.str _,H,I.tok k,⟨t',rfl⟩,h⟩
  .obtain⟨its,r,ht,_⟩:=I.tuple hp;exact PyProof.Rows.join_tuple (items:=its.toArray) ht (by rw[List.toList_toArray];exact iN r) hz λt' k=>⟨.str _,H,I.tok k,⟨t',rfl⟩,h⟩
end
section
variable {X:Cx}{o e:Expr}{to te:TE}
def Gx (r:V->List V->Hp->VK->Prop)(to te:TE):TE:=λσ H Q=>to σ H λx H1=>(∃a,x = .str a)/\te σ H1 λy H2=>r x [y] H2 Q
theorem Fv {id:String}{name:Str}{apos pos:Pos}{r:V->List V->Hp->VK->Prop}(slot:Slot "str" name id)(ty:typeOf (.builtin id)=pure (.type "method_descriptor"))(rule:Go X id r)(ho:PE X o to)(he:PE X e te)
  (hs:starEach [e] X.env=[(false,eval e X.env)]:=by rfl) (hbase:attributeBase o name X.env (eval o X.env)=eval o X.env:=by rfl) (hline:(apos.endLine==pos.line)=true:=by rfl) :
  PE X (.Call (.Attribute o name apos) [e] [] pos) (Gx r to te):=by
 intro pins s σ H Q I h;refine PySem.Call_method1 hbase hs hline (cx (ho pins s σ H _ I h) λv s1 ⟨x,H1,I1,r1,q1⟩=>?_);obtain⟨⟨a,rfl⟩,q1⟩:=q1;obtain⟨t,rfl⟩:=_root_.id r1;refine⟨"str",_,F.plainAttrs_str,slot,ty,typeIs_str _ _ _,(λ_ e=>nomatch e),Calls.callWith_builtin rfl (Calls.evalArgs_plain (Calls.spliced_cons ?_))⟩;exact cx (he pins s1 σ H1 _ I1 q1) λu s2 ⟨y,H2,I2,r2,q2⟩=>Calls.spliced_nil (rule pins s2 σ H2 _ [y] _ [u] Q I2 r1 (.cons r2 .nil) q2)
theorem xc {apos pos:Pos}(ho:PE X o to)(he:PE X e te)(hs:starEach [e] X.env=[(false,eval e X.env)]:=by rfl)(hbase:attributeBase o "join" X.env (eval o X.env)=eval o X.env:=by rfl)(hline:(apos.endLine==pos.line)=true:=by rfl) :
  PE X (.Call (.Attribute o "join" apos) [e] [] pos) (Gx (λx xs H Q=>∃a p,∃ys:List Str,x = .str a/\xs=[.ref p]/\(aR X.K H p (ys.map V.str)\/eB X.K H p (ys.map V.str))/\ (ys.map (·.length)).sum+ys.length*a.length<=16777216/\Q (.str (Txt.join a ys)) H) to te):=
 Fv F.slot_str_join F.type_str_join Cm ho he hs hbase hline
end
section
variable {X:Cx}
end
end L2
namespace Att
open PySem.W PySem.Calls PyProof.Rows
section
variable {prog:Program}{w:World}{A:Around}{E:Value->Shared->Prop}{s:Shared}{K:Frag}
end
end Att
namespace L2
open PyProof.Rows
def bF (s:Stmt)(j:Nat):Stmt:=match s with
 |.ClassDef _ _ _ body _ _ _ _ _ _ _=>body.getD j (.Pass ⟨0,0,0,0⟩)
 |_=>.Pass ⟨0,0,0,0⟩
def dA (s:Stmt):Arguments:=match s with
 |.FunctionDef _ a _ _ _ _ _ _ _ _=>a
 |_=>{ posonlyargs:=[],args:=[],vararg:=none,kwonlyargs:=[],kw_defaults:=[],kwarg:=none,defaults:=[] }
def cU (s:Stmt):List Stmt:=match s with
 |.FunctionDef _ _ b _ _ _ _ _ _ _=>b
 |_=>[]
def ak (s:Stmt):Scope:=match s with
 |.FunctionDef _ _ _ _ _ _ sc _ _ _=>sc
 |_=>{ kind:=.function,names:=[],isGenerator:=false,isCoroutine:=false }
abbrev bO:zm:=λ_ _ _ _ _ _=>False
abbrev E0:XK:=λ_ _ _=>False
theorem qE {X:Cx}:ju bO X E0:=λ_ _ _ _ _ _ _ h=>h.elim
structure fX (K:PySem.W.Frag)(x qual:Str)(st:Stmt)(f:Addr)(fd:FuncData):Prop where
 ex:∃(oc:Value) (od:Option Addr) (kV doc pm:Value) (an:Option Addr) (cdv ct:Value) (osl:Array (Option Value)),
  fd=fnOf x qual (dA st) (cU st) (ak st) .none kV doc pm an cdv ct/\K.lookup f=some ⟨oc,od,.func fd,osl⟩/\codeIn K cdv qual=true
 kp:keepIn K (.ref f)=true
section
variable {P:Program}{w:World}{K:PySem.W.Frag}{mg:Str->Option Value}{base:Heap}
theorem fX.ok {x qual:Str}{st:Stmt}{f:Addr}{fd:FuncData}{N ps:List Str}{k:Nat}{sp:Sp}(F:fX K x qual st f fd)(S:ap N ps (ak st))(len:∀vs H Q E,sp vs H Q E->vs.length=ps.length)
  (hbody:∀(cdv:Value) (A:Around) (outer:List Env) (s:Shared) (H:Hp) (vs:List V) (Q:VK) (E:XK),dk k (A.deeper (envOfC qual (ak st) s.heap.objs.size f cdv))->sp vs H Q E-> ∃t,wM (ny bO P w K mg base N qual (ak st) f cdv A outer s H E).nox (cU st) t/\t { nx:=λ_ H'=>Q .non H',rt:=Q } (start N vs) H):aG P w K mg base bO (k+1) f fd ps sp:=by
 obtain⟨oc,od,kV,doc,pm,an,cdv,ct,osl,rfl,lk,hcd⟩:=F.ex;refine Dq lk hcd S len λA outer s H vs Q E hr hsp=>?_;obtain⟨t,h,q⟩:=hbody cdv A outer s H vs Q E hr hsp;exact⟨t,h.nox,q⟩
theorem fX.binds {x qual:Str}{st:Stmt}{f:Addr}{fd:FuncData}{ps:List Str}(F:fX K x qual st f fd)
  (h:∀(kV doc pm:Value) (an:Option Addr) (cdv ct:Value) (us:List Value),us.length=ps.length->bindArgs (fnOf x qual (dA st) (cU st) (ak st) .none kV doc pm an cdv ct) ⟨us,[]⟩=pure (ps.zip us)):dm K fd ps []:=by
 obtain⟨oc,od,kV,doc,pm,an,cdv,ct,osl,rfl,lk,hcd⟩:=F.ex;exact .all (h kV doc pm an cdv ct)
theorem mj {x qual:Str}{st:Stmt}{f:Addr}{oc:Value}{od an:Option Addr}{osl:Array (Option Value)}{kV doc pm cdv ct:Value}(l:K.lookup f=some ⟨oc,od,.func (fnOf x qual (dA st) (cU st) (ak st) .none kV doc pm an cdv ct),osl⟩)
  (c:codeIn K cdv qual=true) (k:keepIn K (.ref f)=true):fX K x qual st f (fnOf x qual (dA st) (cU st) (ak st) .none kV doc pm an cdv ct):=⟨⟨oc,od,kV,doc,pm,an,cdv,ct,osl,rfl,l,c⟩,k⟩
end
theorem kq {A:Around}{k:Nat}(hr:dk k A):A.units+1<cLine:=Nat.lt_of_le_of_lt (Nat.add_le_add_left (by decide:1<=64) _) hr.units
theorem jX {n:Nat}(h:n<=1000):n<sizeLine:=Nat.lt_of_le_of_lt h (by decide)
section
variable {X:Cx}
theorem pv (i:Nat){x:Str}{pos:Pos}(hN:X.N[i]?=some x:=by rfl)(hv:D5 X.env.scope x:=by first|exact Or.inl rfl|exact Or.inr (Or.inl rfl)|exact Or.inr (Or.inr rfl))(hd:(x==("__debug__":Str))=false:=by decide)
  (hcd:(x==("__classdict__":Str))=false:=by decide):PE X (.Name x pos) (fK i):=zB hN hv hd hcd
theorem yp:ij X (.builtin "len") (λxs H Q=>∃a kvs,xs=[V.ref a]/\H a=some (.dK kvs)/\Q (.int kvs.length) H):=by intro pins s σ H xs us Q I r h;obtain⟨a,kvs,rfl,ha,q⟩:=h;obtain⟨u,rfl,ru⟩:=tT r;cases ru;exact Fs I (.inl ha) λt s' I'=>⟨.int kvs.length,H,I',⟨t,rfl⟩,q⟩
end
theorem jz {A B:Prop}(h:B):if false=true then A else B:=by rw[if_neg Bool.false_ne_true];exact h
theorem rZ {A B:Prop}(h:A):if true=true then A else B:=by rw[if_pos rfl];exact h
def au (H H':Hp):Prop:=∀b o,H b=some o->H' b=some o
theorem au.refl (H:Hp):au H H:=λ_ _ h=>h
theorem au.trans {H H1 H2:Hp}(a:au H H1)(b:au H1 H2):au H H2:=λc o h=>b c o (a c o h)
theorem au.free {H H':Hp}(e:au H H'){l:Addr}(h:H' l=Option.none):H l=Option.none:=by
 cases q:H l with
 |none=>rfl
 |some o=>
  rw[e l o q]at h;cases h
theorem au.seq {K:PySem.W.Frag}{H H':Hp}{a:Addr}{xs:List V}(e:au H H')(h:aR K H a xs):aR K H' a xs:=by
 rcases h with(h|⟨o,h⟩)|h
 .exact .inl (.inl (e _ _ h))
 .exact .inl (.inr ⟨o,e _ _ h⟩)
 .exact .inr h
section
variable {κ:Type}[DecidableEq κ]
end
end L2
section
namespace L2
open PyProof.Rows
open PySem.W (WData Codec OpenSpec Well WellAll ReadsW ReadsAllW)
mutual
inductive Dw (K:PySem.W.Frag)(H:Hp):V->WData->Prop
 |non:Dw K H .non .none
 |bl (b:Bool):Dw K H (.bl b) (.bool b)
 |int (i:Int):Dw K H (.int i) (.int i)
 |str (x:Str):Dw K H (.str x) (.str x)
 |byt (b:Array UInt8):Dw K H (.byt b) (.bytes b.toList)
 |lst {a:Addr} {xs:List V} {ds:List WData}:aR K H a xs->jA K H xs ds->Dw K H (.ref a) (.list ds)
 |tup {a:Addr} {xs:List V} {ds:List WData}:eB K H a xs->jA K H xs ds->Dw K H (.ref a) (.tuple ds)
inductive jA (K:PySem.W.Frag)(H:Hp):List V->List WData->Prop
 |nil:jA K H [] []
 |cons {v:V} {vs:List V} {d:WData} {ds:List WData}:Dw K H v d->jA K H vs ds->jA K H (v::vs) (d::ds)
end
theorem xf {K:PySem.W.Frag}{H:Hp}:∀ns:List Int,jA K H (ns.map V.int) (ns.map WData.int)
 |[]=>.nil
 |n::r=>.cons (.int n) (xf r)
theorem xg {K:PySem.W.Frag}{H:Hp}:∀(ns:List Int) (xs:List V),jA K H xs (ns.map WData.int)->xs=ns.map V.int
 |[],xs,h=>by
  cases h
  rfl
 |n::r,xs,h=>by
  cases h with
  |cons h1 h2=>
   cases h1;rw[xg r _ h2]<;>rfl
section
variable {P:Program}{w:World}{K:PySem.W.Frag}{H:Hp}{h:Heap}{R:PySem.W.WRecords}{cl:Str->Option Addr}
theorem Es {a:Addr}{xs:List V}(hok:ji P w H h)(KX:K.In h)(q:aR K H a xs):∃(its:List Value) (o:Obj) (n:Nat),bn xs its/\h.get? a=some o/\o.cls = .type "list"/\o.data = .seq its.toArray n:=by
 rcases q with q|⟨o,its,n,e,hc,_,hd,_,hv⟩
 .obtain⟨_,its,n,hv,e⟩:=(show cX P w H h a (.lst xs)from q.ok hok)
  exact⟨its,_,n,hv,e,rfl,rfl⟩
 .exact⟨its.toList,o,n,hv,KX _ _ e,hc,by simp[hd]⟩
theorem Et {a:Addr}{xs:List V}(hok:ji P w H h)(KX:K.In h)(q:eB K H a xs):∃(its:List Value) (o:Obj) (n:Nat),bn xs its/\h.get? a=some o/\o.cls = .type "tuple"/\o.data = .seq its.toArray n:=by
 rcases q with q|⟨o,its,n,e,hc,hd,_,hv⟩
 .obtain⟨_,its,hv,o,e,hc,n,hd⟩:=(show cX P w H h a (.tup xs)from q.ok hok)
  exact⟨its,o,n,hv,e,hc,hd⟩
 .exact⟨its.toList,o,n,hv,KX _ _ e,hc,by simp[hd]⟩
mutual
theorem Dw.reads (hok:ji P w H h)(KX:K.In h):∀(d:WData) (v:V) (u:Value),Dw K H v d->bI v u->∃as,ReadsW R cl h u d as
 |.none,_,_,x,r=>by cases x;cases r;exact⟨_,ReadsW.none⟩
 |.bool b,_,_,x,r=>by cases x;cases r;exact⟨_,ReadsW.bool b⟩
 |.int i,_,_,x,r=>by cases x;obtain⟨t,rfl⟩:=r;exact⟨_,ReadsW.int i t⟩
 |.str s,_,_,x,r=>by cases x;obtain⟨t,rfl⟩:=r;exact⟨_,ReadsW.str s t⟩
 |.bytes b,_,_,x,r=>by cases x;obtain⟨t,rfl⟩:=r;exact⟨_,ReadsW.bytes _ t⟩
 |.list ds,_,_,x,r=>by
  cases x with
  |lst hs ha=>
   cases r;obtain⟨its,o,n,rv,ho,hc,hd⟩:=Es hok KX hs;obtain⟨as,hr⟩:=Dw.readsAll hok KX ds _ its ha rv;exact⟨_,ReadsW.list ho hc hd hr⟩
 |.tuple ds,_,_,x,r=>by
  cases x with
  |tup hs ha=>
   cases r;obtain⟨its,o,n,rv,ho,hc,hd⟩:=Et hok KX hs;obtain⟨as,hr⟩:=Dw.readsAll hok KX ds _ its ha rv;exact⟨_,ReadsW.tuple ho hc hd hr⟩
 |.float _,_,_,x,_=>by cases x
 |.dict _,_,_,x,_=>by cases x
 |.bytearray _,_,_,x,_=>by cases x
 |.set _,_,_,x,_=>by cases x
 |.frozenset _,_,_,x,_=>by cases x
 |.obj _ _,_,_,x,_=>by cases x
theorem Dw.readsAll (hok:ji P w H h)(KX:K.In h):∀(ds:List WData) (vs:List V) (us:List Value),jA K H vs ds->bn vs us->∃as,ReadsAllW R cl h us ds as
 |[],_,_,x,r=>by cases x;cases r;exact⟨_,ReadsAllW.nil⟩
 |d::ds,_,_,x,r=>by
  cases x with
  |cons h1 h2=>
   cases r with
   |cons r1 r2=>
    obtain⟨as,q1⟩:=Dw.reads hok KX d _ _ h1 r1;obtain⟨bs,q2⟩:=Dw.readsAll hok KX ds _ _ h2 r2;exact⟨_,ReadsAllW.cons q1 q2⟩
end
end
mutual
def xh:WData->Bool
 |.none=>true
 |.bool _=>true
 |.int _=>true
 |.str _=>true
 |.bytes _=>true
 |.list xs=>nA xs
 |.tuple xs=>nA xs
 |_=>false
def nA:List WData->Bool
 |[]=>true
 |x::r=>xh x&&nA r
end
theorem uo {α:Type}{f:α->WData}(h:∀a,xh (f a)=true):∀l:List α,nA (l.map f)=true
 |[]=>rfl
 |x::r=>by show(xh (f x)&&nA (r.map f))=true;rw[h x,uo h r]<;>rfl
theorem jB:∀(c:Codec) (a:c.denote),xh (c.enc a)=true
 |.unit,_=>rfl
 |.bool,_=>rfl
 |.int _ _,_=>rfl
 |.nat _ _,_=>rfl
 |.u8,_=>rfl
 |.bytes _ _,_=>rfl
 |.text _ _ _ _,_=>rfl
 |.list _ _ c,a=>uo (λx=>jB c x) a
 |.pair c d,a=>by show(xh (c.enc a.1)&&(xh (d.enc a.2)&&true))=true;rw[jB c a.1,jB d a.2]<;>rfl
 |.triple c d e,a=>by show(xh (c.enc a.1)&&(xh (d.enc a.2.1)&&(xh (e.enc a.2.2)&&true)))=true;rw[jB c a.1,jB d a.2.1,jB e a.2.2]<;>rfl
 |.option c,none=>rfl
 |.option c,some x=>jB c x
theorem qF:∀(cs:List Codec) (a:Codec.denoteAll cs),nA (Codec.encAll cs a)=true
 |[],_=>rfl
 |c::cs,a=>by show(xh (c.enc a.1)&&nA (Codec.encAll cs a.2))=true;rw[jB c a.1,qF cs a.2]<;>rfl
theorem kH:∀{xs:List WData} {d:WData},d∈xs->d.weight<=WData.weightAll xs
 |[],d,h=>absurd h (by simp)
 |x::r,d,h=>by
  show d.weight<=x.weight+1+WData.weightAll r;rcases mem_cons.mp h with e|m
  .rw[e];omega
  .have z:=kH m;omega
def tm:Value->V
 |.none=>.non
 |.bool b=>.bl b
 |.int i _=>.int i
 |.str x _=>.str x
 |.bytes b _=>.byt b
 |.ref a=>.ref a
 |_=>.non
def yq (A:List Addr):Value->Prop
 |.none=>True
 |.bool _=>True
 |.int _ _=>True
 |.str _ _=>True
 |.bytes _ _=>True
 |.ref a=>a∈A
 |_=>False
theorem yq.mono {A B:List Addr}(h:∀a∈A,a∈B):∀{u:Value},yq A u->yq B u:=λ{u} x=>by
 cases u with
 |ref a=>exact h a x
 |none=>trivial
 |bool b=>trivial
 |int i t=>trivial
 |str s t=>trivial
 |bytes b t=>trivial
 |_=>exact False.elim x
theorem Aa {A:List Addr}{u:Value}(x:yq A u):bI (tm u) u:=by
 cases u with
 |ref a=>rfl
 |none=>rfl
 |bool b=>rfl
 |int i t=>exact⟨t,rfl⟩
 |str s t=>exact⟨t,rfl⟩
 |bytes b t=>exact⟨t,rfl⟩
 |_=>exact False.elim x
theorem ip {A:List Addr}:∀{vs:List Value},(∀u∈vs,yq A u)->bn (vs.map tm) vs
 |[],_=>.nil
 |u::r,h=>.cons (Aa (h u (mem_cons_self ..))) (ip λx hx=>h x (mem_cons_of_mem _ hx))
def i6 (h:Heap)(A:List Addr)(a:Addr):Prop:=∃vs:List Value,vs.length<=sizeLine/\(∀u∈vs,yq A u)/\
 (h.get? a=some { cls:=.type "list",data:=.seq vs.toArray }\/h.get? a=some { cls:=.type "tuple",data:=.seq vs.toArray })
theorem i6.mono {h:Heap}{A B:List Addr}{a:Addr}(k:∀a∈A,a∈B)(x:i6 h A a):i6 h B a:=by obtain⟨vs,h1,h2,h3⟩:=x;exact⟨vs,h1,λu hu=>(h2 u hu).mono k,h3⟩
theorem gN {P:Params}{h:Heap}:∀{vs:List Value} {ds:List WData},WellAll P h vs ds->vs.length=ds.length
 |_,_,.nil=>rfl
 |_,_,.cons _ b=>by show _+1=_+1;rw[gN b]
theorem qG {P:Params}{h:Heap}{v:Value}{ds:List WData}(x:Well P h v (.list ds)):∃(a:Addr) (vs:List Value),v = .ref a/\h.get? a=some { cls:=.type "list",data:=.seq vs.toArray }/\WellAll P h vs ds:=by
 cases x with
 |list ho hall=>exact⟨_,_,rfl,ho,hall⟩
theorem oS {P:Params}{h:Heap}{v:Value}{ds:List WData}(x:Well P h v (.tuple ds)):∃(a:Addr) (vs:List Value),v = .ref a/\h.get? a=some { cls:=.type "tuple",data:=.seq vs.toArray }/\WellAll P h vs ds:=by
 cases x with
 |tuple ho hall=>exact⟨_,_,rfl,ho,hall⟩
theorem qH {P:Params}{h:Heap}{us:List Value}{d:WData}{ds:List WData}(x:WellAll P h us (d::ds)):∃(v:Value) (vs:List Value),us=v::vs/\Well P h v d/\WellAll P h vs ds:=by
 cases x with
 |cons a b=>exact⟨_,_,rfl,a,b⟩
theorem line_of {n:Nat}(h:n<=1048576):n<=sizeLine:=le_trans h (by decide)
section
variable {P:Params}{h:Heap}
mutual
theorem Ab:∀(d:WData) (v:Value),Well P h v d->xh d=true->d.weight<=1048576->∃A:List Addr,yq A v/\∀a∈A,i6 h A a
 |.none,_,x,_,_=>by cases x;exact⟨[],trivial,λa m=>absurd m (by simp)⟩
 |.bool b,_,x,_,_=>by cases x;exact⟨[],trivial,λa m=>absurd m (by simp)⟩
 |.int i,_,x,_,_=>by cases x;exact⟨[],trivial,λa m=>absurd m (by simp)⟩
 |.str s,_,x,_,_=>by cases x;exact⟨[],trivial,λa m=>absurd m (by simp)⟩
 |.bytes b,_,x,_,_=>by cases x;exact⟨[],trivial,λa m=>absurd m (by simp)⟩
 |.list ds,_,x,p,z=>by
  obtain⟨a,vs,rfl,ho,hall⟩:=qG x;have z2:WData.weightAll ds<=1048576:=z;obtain⟨A,h1,h2⟩:=lg ds _ hall p λd hd=>le_trans (kH hd) z2;have k:∀b∈A,b∈a::A:=λb hb=>mem_cons_of_mem _ hb;refine⟨a::A,mem_cons_self ..,λb hb=>?_⟩;rcases mem_cons.mp hb with e|m
  .rw[e];exact⟨vs,line_of (by rw[gN hall];exact le_trans (PySem.W.length_le_weightAllW ds) z2),λu hu=>(h1 u hu).mono k,.inl ho⟩
  .exact(h2 b m).mono k
 |.tuple ds,_,x,p,z=>by
  obtain⟨a,vs,rfl,ho,hall⟩:=oS x;have z2:WData.weightAll ds<=1048576:=z;obtain⟨A,h1,h2⟩:=lg ds _ hall p λd hd=>le_trans (kH hd) z2;have k:∀b∈A,b∈a::A:=λb hb=>mem_cons_of_mem _ hb;refine⟨a::A,mem_cons_self ..,λb hb=>?_⟩;rcases mem_cons.mp hb with e|m
  .rw[e];exact⟨vs,line_of (by rw[gN hall];exact le_trans (PySem.W.length_le_weightAllW ds) z2),λu hu=>(h1 u hu).mono k,.inr ho⟩
  .exact(h2 b m).mono k
 |.float _,_,_,p,_=>noConfusion (show false=true from p)
 |.dict _,_,_,p,_=>noConfusion (show false=true from p)
 |.bytearray _,_,_,p,_=>noConfusion (show false=true from p)
 |.set _,_,_,p,_=>noConfusion (show false=true from p)
 |.frozenset _,_,_,p,_=>noConfusion (show false=true from p)
 |.obj _ _,_,_,p,_=>noConfusion (show false=true from p)
theorem lg:∀(ds:List WData) (vs:List Value),WellAll P h vs ds->nA ds=true->(∀d∈ds,d.weight<=1048576)->∃A:List Addr,(∀u∈vs,yq A u)/\∀a∈A,i6 h A a
 |[],_,x,_,_=>by cases x;exact⟨[],λu m=>absurd m (by simp),λa m=>absurd m (by simp)⟩
 |d::ds,_,x,p,z=>by
  obtain⟨v,vs,rfl,x1,x2⟩:=qH x;have q:xh d=true/\nA ds=true:=Bool.and_eq_true_iff.mp p;obtain⟨A,a1,a2⟩:=Ab d v x1 q.1 (z d (mem_cons_self ..));obtain⟨B,b1,b2⟩:=lg ds vs x2 q.2 λe he=>z e (mem_cons_of_mem _ he);have kA:∀b∈A,b∈A++B:=λb hb=>mem_append.mpr (.inl hb);have kB:∀b∈B,b∈A++B:=λb hb=>mem_append.mpr (.inr hb);refine⟨A++B,λu hu=>?_,λb hb=>?_⟩
  .rcases mem_cons.mp hu with e|m
   .rw[e];exact a1.mono kA
   .exact(b1 u m).mono kB
  .rcases mem_append.mp hb with m|m
   .exact(a2 b m).mono kA
   .exact(b2 b m).mono kB
end
end
def Cn (o:Obj):Option HO:=match o.data with
 |.seq vs _=>if (o.cls==Value.type "list")=true then some (.frz o (.lst (vs.toList.map tm)))else some (.frz o (.tup (vs.toList.map tm)))
 |_=>none
def iq (K:PySem.W.Frag)(h:Heap)(A:List Addr):Hp:=λb=>if b∈A then(if (K.lookup b).isNone=true then(h.get? b).bind Cn else none)else none
def Dz (H:Hp):Prop:=∀b,H b=none\/∃o u,H b=some (.frz o u)
theorem uq (vs:List Value):Cn { cls:=.type "list",data:=.seq vs.toArray }=some (.frz { cls:=.type "list",data:=.seq vs.toArray } (.lst (vs.map tm))):=by show(if (Value.type "list"==Value.type "list")=true then some (HO.frz { cls:=.type "list",data:=.seq vs.toArray } (.lst (vs.toArray.toList.map tm)))else some (HO.frz { cls:=.type "list",data:=.seq vs.toArray } (.tup (vs.toArray.toList.map tm))))=_;rw[if_pos (beq_self_eq_true _)]
theorem ur (vs:List Value):Cn { cls:=.type "tuple",data:=.seq vs.toArray }=some (.frz { cls:=.type "tuple",data:=.seq vs.toArray } (.tup (vs.map tm))):=by show(if (Value.type "tuple"==Value.type "list")=true then some (HO.frz { cls:=.type "tuple",data:=.seq vs.toArray } (.lst (vs.toArray.toList.map tm)))else some (HO.frz { cls:=.type "tuple",data:=.seq vs.toArray } (.tup (vs.toArray.toList.map tm))))=_;rw[if_neg (by decide)]
section
variable {P:Program}{w:World}{K:PySem.W.Frag}{h:Heap}{A:List Addr}
theorem nQ {b:Addr}{o:Obj}(hb:b∈A)(hk:K.lookup b=none)(e:h.get? b=some o):iq K h A b=Cn o:=by unfold iq;rw[if_pos hb,hk,if_pos (show(none:Option Obj).isNone=true from rfl),e]<;>rfl
theorem Co {b:Addr}{u:HO}(q:iq K h A b=some u):b∈A/\K.lookup b=none:=by
 unfold iq at q;by_cases hb:b∈A
 .rw[if_pos hb]at q;cases hk:K.lookup b with
  |none=>exact⟨hb,rfl⟩
  |some o=>
   rw[hk,if_neg (by simp)]at q;cases q
 .rw[if_neg hb]at q;cases q
theorem nS (ar:∀a∈A,i6 h A a){b:Addr}{u:HO}(q:iq K h A b=some u):K.lookup b=none/\∃vs:List Value,vs.length<=sizeLine/\(∀u∈vs,yq A u)/\
  ((h.get? b=some { cls:=.type "list",data:=.seq vs.toArray }/\u = .frz { cls:=.type "list",data:=.seq vs.toArray } (.lst (vs.map tm)))\/ (h.get? b=some { cls:=.type "tuple",data:=.seq vs.toArray }/\u = .frz { cls:=.type "tuple",data:=.seq vs.toArray } (.tup (vs.map tm)))):=by
 obtain⟨hb,hk⟩:=Co q;obtain⟨vs,h1,h2,h3⟩:=ar b hb;refine⟨hk,vs,h1,h2,?_⟩;rcases h3 with e|e
 .rw[nQ hb hk e,uq]at q;exact .inl ⟨e,(Option.some.inj q).symm⟩
 .rw[nQ hb hk e,ur]at q;exact .inr ⟨e,(Option.some.inj q).symm⟩
theorem yr (ar:∀a∈A,i6 h A a):Dz (iq K h A):=λb=>by
 cases q:iq K h A b with
 |none=>exact .inl rfl
 |some u=>
  obtain⟨_,vs,_,_,⟨_,e⟩|⟨_,e⟩⟩:=nS ar q
  .exact .inr ⟨_,_,by rw[e]⟩
  .exact .inr ⟨_,_,by rw[e]⟩
theorem Cp (ar:∀a∈A,i6 h A a):ji P w (iq K h A) h:=λb u q=>by
 obtain⟨_,vs,h1,h2,⟨e,rfl⟩|⟨e,rfl⟩⟩:=nS ar q
 .exact⟨e,by rw[length_map];exact h1,vs,_,ip h2,e⟩
 .exact⟨e,by rw[length_map];exact h1,vs,ip h2,_,e,rfl,_,rfl⟩
theorem nT {c c':Value}{vs us:List Value}(e:(some { cls:=c,data:=.seq vs.toArray }:Option Obj)=some { cls:=c',data:=.seq us.toArray }):c=c'/\vs=us:=by have e1:=Option.some.inj e;have e2:c=c':=congrArg Obj.cls e1;have e3:Data.seq vs.toArray=Data.seq us.toArray:=congrArg Obj.data e1;injection e3 with e4;refine⟨e2,?_⟩;have e5:=congrArg Array.toList e4;simpa using e5
theorem Gy (KX:K.In h)(ar:∀a∈A,i6 h A a){a:Addr}{vs:List Value}(ha:a∈A)(e:h.get? a=some { cls:=.type "list",data:=.seq vs.toArray }):(∀u∈vs,yq A u)/\aR K (iq K h A) a (vs.map tm):=by
 obtain⟨us,h1,h2,h3⟩:=ar a ha;have hu:us=vs:=by
  rcases h3 with q|q
  .rw[e]at q;exact(nT q).2.symm
  .rw[e]at q;exact absurd (Value.type.inj (nT q).1) (by decide)
 subst hu;refine⟨h2,?_⟩;cases hk:K.lookup a with
 |none=>exact .inl (.inr ⟨_,by rw[nQ ha hk e,uq]⟩)
 |some o=>
  have e2:=KX a o hk;rw[e]at e2;obtain rfl:=Option.some.inj e2;exact .inr ⟨_,us.toArray,_,hk,rfl,rfl,rfl,by rw[size_toArray];exact h1,by simpa using ip h2⟩
theorem Gz (KX:K.In h)(ar:∀a∈A,i6 h A a){a:Addr}{vs:List Value}(ha:a∈A)(e:h.get? a=some { cls:=.type "tuple",data:=.seq vs.toArray }):(∀u∈vs,yq A u)/\eB K (iq K h A) a (vs.map tm):=by
 obtain⟨us,h1,h2,h3⟩:=ar a ha;have hu:us=vs:=by
  rcases h3 with q|q
  .rw[e]at q;exact absurd (Value.type.inj (nT q).1) (by decide)
  .rw[e]at q;exact(nT q).2.symm
 subst hu;refine⟨h2,?_⟩;cases hk:K.lookup a with
 |none=>exact .inl (.inr ⟨_,by rw[nQ ha hk e,ur]⟩)
 |some o=>
  have e2:=KX a o hk;rw[e]at e2;obtain rfl:=Option.some.inj e2;exact .inr ⟨_,us.toArray,_,hk,rfl,rfl,by rw[size_toArray];exact h1,by simpa using ip h2⟩
mutual
theorem Eu {Pm:Params}(KX:K.In h)(ar:∀a∈A,i6 h A a):∀(d:WData) (v:Value),Well Pm h v d->xh d=true->yq A v->Dw K (iq K h A) (tm v) d
 |.none,_,x,_,_=>by cases x;exact .non
 |.bool b,_,x,_,_=>by cases x;exact .bl b
 |.int i,_,x,_,_=>by cases x;exact .int i
 |.str s,_,x,_,_=>by cases x;exact .str s
 |.bytes b,_,x,_,_=>by cases x;have z:=Dw.byt (K:=K) (H:=iq K h A) b.toArray;exact z
 |.list ds,_,x,p,hu=>by obtain⟨a,vs,rfl,ho,hall⟩:=qG x;obtain⟨h2,hs⟩:=Gy KX ar hu ho;exact .lst hs (r0 KX ar ds _ hall p h2)
 |.tuple ds,_,x,p,hu=>by obtain⟨a,vs,rfl,ho,hall⟩:=oS x;obtain⟨h2,hs⟩:=Gz KX ar hu ho;exact .tup hs (r0 KX ar ds _ hall p h2)
 |.float _,_,_,p,_=>noConfusion (show false=true from p)
 |.dict _,_,_,p,_=>noConfusion (show false=true from p)
 |.bytearray _,_,_,p,_=>noConfusion (show false=true from p)
 |.set _,_,_,p,_=>noConfusion (show false=true from p)
 |.frozenset _,_,_,p,_=>noConfusion (show false=true from p)
 |.obj _ _,_,_,p,_=>noConfusion (show false=true from p)
theorem r0 {Pm:Params}(KX:K.In h)(ar:∀a∈A,i6 h A a):∀(ds:List WData) (vs:List Value),WellAll Pm h vs ds->nA ds=true->(∀u∈vs,yq A u)->jA K (iq K h A) (vs.map tm) ds
 |[],_,x,_,_=>by cases x;exact .nil
 |d::ds,_,x,p,hu=>by obtain⟨v,vs,rfl,x1,x2⟩:=qH x;have q:xh d=true/\nA ds=true:=Bool.and_eq_true_iff.mp p;exact .cons (Eu KX ar d v x1 q.1 (hu _ (mem_cons_self ..))) (r0 KX ar ds vs x2 q.2 λu m=>hu u (mem_cons_of_mem _ m))
end
end
theorem oT {ds:List WData}(h:WData.layableAll ds=true):∀d∈ds,d.weight<=1048576:=λd hd=>
 (PySem.W.layableW_iff.mp (all_eq_true.mp h d hd)).2.2
theorem oU:∀(cs:List Codec) (a:Codec.denoteAll cs),(Codec.encAll cs a).length=cs.length
 |[],_=>rfl
 |c::cs,a=>by show(Codec.encAll cs a.2).length+1=cs.length+1;rw[oU cs a.2]
end L2
end
namespace L2
open PyProof.Rows
section
variable {X:Cx}
theorem aS {x:Str}{i:Int}{pos:Pos}(hm:∃t,X.mg x=some (.int i t))(hg:Gl X x:=by rfl)(hd:(x==("__debug__":Str))=false:=by decide):PE X (.Name x pos) (tC (.int i)):=by obtain⟨t,hm⟩:=hm;exact wN hg hm ⟨t,rfl⟩ hd
theorem xi {x:Str}{a:Addr}{pos:Pos}(hm:X.mg x=some (.ref a))(hg:Gl X x:=by rfl)(hd:(x==("__debug__":Str))=false:=by decide):PE X (.Name x pos) (tC (.ref a)):=wN hg hm rfl hd
def big:Nat:=2^2000
theorem ut {k:Int}(h:k.natAbs<big):Builtin.Int.intBits k<=2^20:=by
 unfold Builtin.Int.intBits;split
 .exact zero_le _
 .rename_i h0;have hne:k.natAbs≠0:=by intro e;exact h0 (by simpa using e)
  have hl:k.natAbs.log2<2000:=(Nat.log2_lt hne).mpr h;have e:(2:Nat)^20=1048576:=by decide
  omega
def GA (i j:Int):Prop:=i.natAbs<big/\j.natAbs<big
theorem Cq:lR X (binaryOp .Mult) (rI GA λi j=>.int (i*j)):=Fd λ_ _ _ _ _ _ _ hc q=>mul_int q (IntMulOk.of_bits (ut hc.1) (ut hc.2))
def Fw (_ j:Int):Prop:=0<j/\j.natAbs<big
theorem Ac:lR X (binaryOp .FloorDiv) (rI Fw λi j=>.int (i / j)):=Fd λi j _ _ _ _ _ hc q=>by
 have hne:j.natAbs≠0:=by have:=hc.1;omega
 have hl:j.natAbs.log2<9000:=Nat.lt_trans ((Nat.log2_lt hne).mpr hc.2) (by decide);refine floordiv_int (by have:=hc.1;omega) ?_ (.inl (PyProof.noPylong_of_log2 hl));rw[Int.fdiv_eq_ediv_of_nonneg _ (by have:=hc.1;omega)];exact q
def gO (P:Program)(w:World)(K:PySem.W.Frag)(d:Addr)(kvs:List (cT×V)):Prop:=∃(o:Obj) (es:Array DictEntry) (ep:Nat) (vs:List (cT×Value)),K.lookup d=some o/\(d==sysModules)=false/\o.ExactDict/\o.data = .dict es ep/\es.size=kvs.length/\KV kvs vs/\
  KeysOf (bM P w) es/\Pairs (bM P w) es.toList vs/\(vs.map (·.1)).Nodup
theorem gO.of_ {d:Addr}{kvs:List (cT×V)}{pins:List (Addr×Obj)}{σ:St}{H:Hp}{s:Shared}(I:aH X pins σ H s)(m:gO X.prog X.w X.K d kvs) :
  ∃vs,KV kvs vs/\s.heap.DictOf (bM X.prog X.w) d vs:=by
 obtain⟨o,es,ep,vs,lk,_,hx,hd,_,kv,hk,hp,hn⟩:=m;exact⟨vs,kv,o,es,ep,I.kIn d o lk,hx,hd,hk,hp,hn⟩
def DA (P:Program)(w:World)(K:PySem.W.Frag)(td ty:TE):TE:=λσ H Q=>td σ H λx H1=>ty σ H1 λy H2=>∃a kvs k v,x = .ref a/\gO P w K a kvs/\y=kV k/\cS kvs k=some v/\Q v H2
theorem xj {o i:Expr}{td ty:TE}{pos:Pos}(ho:PE X o td)(hi:PE X i ty)(hs:Eo i):PE X (.Subscript o i pos) (DA X.prog X.w X.K td ty):=by intro pins s σ H Q I h;refine w8 PySem.F.slot_dict_getitem.lookup hs (cx (ho pins s σ H _ I h) λu s1 ⟨x,H1,I1,rx,q1⟩=>cx (hi pins s1 σ H1 _ I1 q1) λiv s2 ⟨y,H2,I2,ry,a,kvs,k,v,ex,m,ey,hv,q2⟩=>?_);subst ex ey;obtain rfl:u=Value.ref a:=rx;obtain⟨vs,kv,dd⟩:=gO.of_ I2 m;obtain⟨w',hw,rw'⟩:=js.some_of (v:=v) (o:=valueAt vs k) (by rw[<- hv];exact kv.val k);exact⟨dd.typeIs,wpAny_getItem_of (uf ry) dd.mapOf hw ⟨v,H2,I2.tok _,rw',q2⟩⟩
def E4 (kvs:List (cT×V)):It:=⟨λi _=>i<kvs.length,λi H x H'=>H'=H/\∃k v,kvs[i]?=some (k,v)/\x=kV k,λi _=>kvs.length<=i⟩
theorem vP {P:Program}{w:World}{K:PySem.W.Frag}{tg:Expr}{d:Addr}{o:Obj}{es:Array DictEntry}{ep:Nat}{kvs:List (cT×V)}{vs:List (cT×Value)}(it:Addr)(lk:K.lookup d=some o)(hx:o.ExactDict)(hod:o.data = .dict es ep)(hsz:es.size=kvs.length)(kv:KV kvs vs)
  (hk:KeysOf (bM P w) es) (hp:Pairs (bM P w) es.toList vs) (hn:(vs.map (·.1)).Nodup):nv P w K tg (E4 kvs) [it] it (λi h=>h.IsKeyIter it d i kvs.length ep) where
 mem:=by simp
 obj:=λi h st b hb=>by
  have e:b=it:=by simpa using hb
  subst e;obtain⟨oi,e,c,dd⟩:=st;exact⟨oi,e,λv z=>by rw[dd]at z;cases z⟩
 keep:=λi h h' st k=>st.at λoi e=>k it (by simp) oi e
 item:=by
  intro X hP hw hK hc i pins s σ H E I hf st hi;subst hP hw hK;obtain⟨f0,f1,f2,f3,f4,f5⟩:=hf it (by simp);have hm:s.heap.DictAt (bM X.prog X.w) d vs ep:=⟨o,es,I.kIn d o lk,hx,hod,hk,hp,hn⟩
  obtain⟨⟨k,v⟩,hkv⟩:∃p,kvs[i]?=some p:=⟨kvs[i],List.getElem?_eq_getElem hi⟩
  obtain⟨u,hu,ru⟩:=zZ kv hkv;have hl:kvs.length=vs.length:=Paired.length kv;rw[hl]at st;refine wpAny_pyNext_dict_item st hm hu λkey h' hkey st' sb=>?_;have I1:aH X pins σ H { s with heap:=h' }:=I.turned (t':=s.toks) (λb ob hb e=>(sb.2 b hb).trans e) f0 f1 f3 f4 f5;obtain⟨oi,e,c,dd⟩:=id st';refine⟨key,rfl,mN (s:={ s with heap:=h' }) e c dd (by decide) ⟨kV k,H,I1,ul (show kj k key=true from hkey),⟨rfl,k,v,hkv,rfl⟩,?_,λb hb=>(hf b hb).1⟩⟩;show h'.IsKeyIter it d (i+1) kvs.length _;rw[hl];exact st'
 done:=by intro X hP hw hK hc i pins s σ H E I hf st hi;subst hP hw hK;obtain⟨f0,f1,f2,f3,f4,f5⟩:=hf it (by simp);exact iM (I.ok.hd hc) st (I.kIn d o lk) hod hsz hi λh' eb=>⟨rfl,I.turned (t':=s.toks) (λb ob hb e=>eb b ob hb e) f0 f1 f3 f4 f5⟩
 self:=λA i s Q E st h=>wpAny_pyIter_keyiter st h
def Ad (P:Program)(w:World)(K:PySem.W.Frag)(td:TE):TI:=λσ H R=>td σ H λx H1=>∃d kvs,x = .ref d/\gO P w K d kvs/\R (E4 kvs) H1
theorem Ae {tg e:Expr}{td:TE}(he:PE X e td):PI X tg e (Ad X.prog X.w X.K td):=by intro pins s σ H R I h;refine cx (he pins s σ H _ I h) λu s1 ⟨x,H1,I1,rx,d,kvs,ex,m,q⟩=>?_;subst ex;obtain rfl:u=Value.ref d:=rx;obtain⟨o,es,ep,vs,lk,hs,hx,hd,hz,kv,hk,hp,hn⟩:=m;refine mi hs (I1.kIn d o lk) hx hd (mh (tk:=s1.toks) I1 _ (vP _ lk hx hd hz kv hk hp hn) ⟨_,get?_push_size _ rfl,rfl,?_⟩ q);rw[hz]<;>rfl
theorem yt {kvs:List (cT×V)}{g:TG}{tb:TS}{D:jj}{σ:St}{H:Hp}(Pv:Nat->St->Hp->Prop)(h0:Pv 0 σ H)
  (hs:∀i k v σ H,kvs[i]?=some (k,v)->Pv i σ H->g (kV k) σ H λσ2 H2=>tb { D with nx:=Pv (i+1),ct:=Pv (i+1),bk:=D.nx } σ2 H2) (hd:∀σ H,Pv kvs.length σ H->D.nx σ H) :
  ∃W:Nat->Nat->St->Hp->Prop,(∃m,W 0 m σ H)/\∀i m σ H,W i m σ H->
   ((E4 kvs).stop i H/\D.nx σ H)\/((E4 kvs).go i H/\∃N:St->Hp->Prop,(∀σ' H',N σ' H'->∃m',m'<m/\W (i+1) m' σ' H')/\∀x H',(E4 kvs).yld i H x H'->g x σ H' λσ2 H2=>tb { D with nx:=N,ct:=N,bk:=D.nx } σ2 H2):=by
 refine⟨λi m σ H=>m=kvs.length-i/\i<=kvs.length/\Pv i σ H,⟨kvs.length,by simp,zero_le _,h0⟩,?_⟩;rintro i m σ H ⟨rfl,hi,p⟩;by_cases hlt:i<kvs.length
 .refine .inr ⟨hlt,Pv (i+1),λσ' H' p'=>⟨kvs.length-(i+1),by omega,rfl,hlt,p'⟩,λx H' y=>?_⟩;obtain⟨e,k,v,hk,e2⟩:=y;subst e e2;exact hs i k v σ _ hk p
 .have e:i=kvs.length:=by omega
  subst e;exact .inl ⟨Nat.le_refl _,hd σ H p⟩
def r8 (P:Program)(w:World)(K:PySem.W.Frag)(mg:Str->Option Value)(base:Heap)(k:Nat)(f:Addr)(sp:Sp):Prop:=∃(fd:FuncData) (ps:List Str),aG P w K mg base bO k f fd ps sp/\keepIn K (.ref f)=true/\dm K fd ps []
def Ev (P:Program)(w:World)(K:PySem.W.Frag)(mg:Str->Option Value)(base:Heap)(k i:Nat)(t:TA):TE:=λσ H Q=>∃f sp,σ[i]?=some (some (.ref f))/\r8 P w K mg base k f sp/\t σ H λvs H1=>sp vs H1 Q E0
theorem Af {k i:Nat}{x:Str}{p pos:Pos}{e:Expr}{es:List Expr}{t:TA}(hr:dk k X.A)(ha:PA X (e::es) t)(hN:X.N[i]?=some x:=by rfl)(hv:D5 X.env.scope x:=by first|exact Or.inl rfl|exact Or.inr (Or.inl rfl)|exact Or.inr (Or.inr rfl))
  (hd:(x==("__debug__":Str))=false:=by decide) (hcd:(x==("__classdict__":Str))=false:=by decide) (he:starEach (e::es) X.env=(false,eval e X.env)::starEach es X.env:=by rfl) (hpl:(backTo pos (starEach es X.env)).any (·.1)=false:=by rfl) :
  PE X (.Call (.Name x p) (e::es) [] pos) (Ev X.prog X.w X.K X.mg X.base k i t):=by
 intro pins s σ H Q I h;obtain⟨f,sp,ef,⟨fd,ps,F,hk,hb⟩,h⟩:=h;refine wpAny_Call_Name_kw (cx (zB hN hv hd hcd pins s σ H (λv H1=>v = .ref f/\H1=H) I ⟨.ref f,ef,rfl,rfl⟩) λu s1 ⟨v,H1,I1,rv,e1,e2⟩=>?_);subst e1 e2;obtain rfl:u=Value.ref f:=rv;refine callWith_K (h₀:=X.base) I.ok.mod.kin hk (cx (ha pos pins s1 σ H1 _ I1 h) λus s2 ⟨vs,H2,I2,r,q⟩=>⟨I2.kIn,?_⟩) he hpl;exact rP (ds:=[]) (dvs:=[]) (E:=E0) F hr hb .nil qE I2 r (by rw[append_nil];exact q)
end
section
variable {X:Cx}{K:PySem.W.Frag}{D:jj}{σ:St}{H:Hp}{Q:VK}{t u:TS}{te ta tb:TE}{i:Nat}{v x:V}{QB:Bool->Hp->Prop}{QL:List V->Hp->Prop}
theorem qI (h:t { D with nx:=u D } σ H):zC t u D σ H:=h
theorem r9 (h:D.nx σ H):wO D σ H:=h
theorem qJ (h:te σ H λx H1=>D.nx (σ.set i (some x)) H1):vC te (km i) D σ H:=h
theorem Ag (h:te σ H λ_ H1=>D.nx σ H1):zD te D σ H:=h
theorem DB (h:te σ H D.rt):x8 te D σ H:=h
theorem Ew {c:TT}(h:c σ H λb H1=>if b=true then t D σ H1 else u D σ H1):BU c t u D σ H:=h
theorem DC (e:σ[i]?=some (some v))(h:Q v H):fK i σ H Q:=⟨v,e,h⟩
theorem GT (h:Q v H):tC v σ H Q:=h
theorem Fx {r:R2}(h:ta σ H λx H1=>tb σ H1 λy H2=>r x y H2 Q):vp r ta tb σ H Q:=h
theorem Fy {g:Int->Int->V}{a b:Int}(h:Q (g a b) H):vq g (.int a) (.int b) H Q:=⟨a,b,rfl,rfl,h⟩
theorem gF {C:Int->Int->Prop}{g:Int->Int->V}{a b:Int}(c:C a b)(h:Q (g a b) H):rI C g (.int a) (.int b) H Q:=⟨a,b,rfl,rfl,c,h⟩
theorem uu {a b:Int}:decide (V.int a=V.int b)=decide (a=b):=by
 by_cases h:a=b
 .subst h;simp
 .rw[decide_eq_false h,decide_eq_false (λe=>h (by cases e;rfl))]
theorem Ah {a b:Str}:decide (V.str a=V.str b)=decide (a=b):=by
 by_cases h:a=b
 .subst h;simp
 .rw[decide_eq_false h,decide_eq_false (λe=>h (by cases e;rfl))]
theorem DD {a b:Int}(h:Q (.bl (decide (a=b))) H):F9 (.int a) (.int b) H Q:=⟨rfl,by rw[uu];exact h⟩
theorem DE {a b:Int}(h:Q (.bl (!decide (a=b))) H):GO (.int a) (.int b) H Q:=⟨rfl,by rw[uu];exact h⟩
theorem DF {a b:Str}(h:Q (.bl (decide (a=b))) H):F9 (.str a) (.str b) H Q:=⟨rfl,by rw[Ah];exact h⟩
theorem G7 {N P:List Str}{sc:Scope}(h1:sc.kind = .function)(h2:sc.isCoroutine=false)(h3:sc.isGenerator=false)(h5:N.take P.length=P)(h:N.Nodup/\(∀x∈P,sc.names.lookup x=some .local\/sc.names.lookup x=some .cell)/\∀y∈sc.names,y.2≠.free):ap N P sc:=⟨h1,h2,h3,h.1,h5,h.2.1,h.2.2⟩
theorem Ai (h:te σ H λx H'=>∃k,x = .bl k/\QB k H'):oJ te σ H QB:=h
theorem Fz (h:te σ H λx H'=>∃k,x = .bl k/\QB k H'):tB te σ H QB:=h
theorem FA {b:Bool}{P:Bool->Prop}(h:P b):∃k,V.bl b = .bl k/\P k:=⟨b,rfl,h⟩
theorem DG {c d:TT}(h:c σ H λb H1=>if b=true then d σ H1 QB else QB false H1):D7 c d σ H QB:=h
theorem FB {c d:TT}(h:c σ H λb H1=>if b=true then QB true H1 else d σ H1 QB):Gf c d σ H QB:=h
theorem DH {c:TT}(h:c σ H λb H1=>QB (!b) H1):E8 c σ H QB:=h
theorem Aj (h:ta σ H λx H1=>∃c,x = .bl c/\if c=true then tb σ H1 Q else Q (.bl false) H1):Dj ta tb σ H Q:=h
theorem DI {c:TT}(h:c σ H λb H1=>if b=true then ta σ H1 Q else tb σ H1 Q):GM c ta tb σ H Q:=h
theorem xl {r r':R2}{tc:TE}(h:ta σ H λx H1=>tb σ H1 λy H2=>r x y H2 λz H3=>∃k,z = .bl k/\(if k=true then tc σ H3 λw' H4=>r' y w' H4 Q else Q (.bl false) H3)):vF r r' ta tb tc σ H Q:=h
theorem DJ {f:Str}(h:ta σ H (Fg K f Q)):tU K ta f σ H Q:=h
theorem Ak {f:Str}(h:tb σ H λy H1=>ta σ H1 (zM K f y (D.nx σ))):Fh K ta tb f D σ H:=h
theorem xm {f:Str}{y:V}{a C dx:Addr}{fs:List (Str×V)}{R:Hp->Prop}(ha:H a=some (.ins C dx fs))(c:lS K C)(n:aN K C f)(l:fs.length<1000)(h:R (upd H a (.ins C dx (cy f y fs)))):zM K f y R (.ref a) H:=⟨a,C,dx,fs,rfl,ha,c,n,l,h⟩
theorem bw {a:Addr}{xs:List V}{j:Int}(hs:aR K H a xs)(e:Ce xs j=some v)(h:Q v H):Eg K (.ref a) (.int j) H Q:=⟨a,xs,j,v,rfl,rfl,hs,e,h⟩
theorem mR {a:Addr}{xs:List V}{j:Int}(hs:eB K H a xs)(e:Ce xs j=some v)(h:Q v H):Fk K (.ref a) (.int j) H Q:=⟨a,xs,j,v,rfl,rfl,hs,e,h⟩
theorem xn (h:QL [] H):jk σ H QL:=h
theorem sf {tr:TA}(h:ta σ H λx H1=>tr σ H1 λxs H2=>QL (x::xs) H2):gq ta tr σ H QL:=h
theorem DK {t:TA}(h:t σ H λxs H1=>xs.length<=sizeLine/\∀p,H1 p=none->Q (.ref p) (upd H1 p (.lst xs))):yf t σ H Q:=h
theorem DL {t:TA}(h:t σ H λxs H1=>xs.length<=sizeLine/\∀p,H1 p=none->Q (.ref p) (upd H1 p (.tup xs))):Fi t σ H Q:=h
theorem aD {n:Nat}{P:Prop}(hn:n<=1000)(h:P):n<=sizeLine/\P:=⟨le_of_lt (jX hn),h⟩
theorem FC {T:String}{r:V->List V->Hp->VK->Prop}{t:TA}(h:te σ H λx H1=>Gb K T x H1/\t σ H1 λxs H2=>r x xs H2 Q):GR K T r te t σ H Q:=h
theorem Al {l:Addr}{xs:List V}{P:Prop}(hs:aR K H l xs)(h:P):Gb K "list" (.ref l) H/\P:=⟨.inl ⟨rfl,xs,hs⟩,h⟩
theorem fQ {l:Addr}{xs:List V}{y:V}(hs:H l=some (.lst xs))(hl:xs.length<sizeLine)(h:Q .non (upd H l (.lst (xs++[y])))):wX (.ref l) [y] H Q:=⟨l,xs,y,rfl,rfl,hs,hl,h⟩
theorem lh {l b:Addr}{xs zs:List V}(hs:H l=some (.lst xs))(hb:H b=some (.lst zs))(hl:xs.length+zs.length<=sizeLine)(h:Q .non (upd H l (.lst (xs++zs)))):wY (.ref l) [.ref b] H Q:=⟨l,b,xs,zs,rfl,rfl,hs,hb,hl,h⟩
theorem aY {p:Prop}[Decidable p]{A B:Prop}(h1:p->A)(h2:¬p->B):if decide p=true then A else B:=by
 by_cases h:p
 .rw[decide_eq_true h];exact rZ (h1 h)
 .rw[decide_eq_false h];exact jz (h2 h)
theorem dv {p:Prop}[Decidable p]{A B:Prop}(h1:¬p->A)(h2:p->B):if (!decide p)=true then A else B:=by
 by_cases h:p
 .rw[decide_eq_true h];exact jz (h2 h)
 .rw[decide_eq_false h];exact rZ (h1 h)
def tF (sp:Sp)(t:TA):TE:=λσ H Q=>t σ H λvs H1=>sp vs H1 Q E0
def FD (C:Addr)(m:Str)(sp:Sp)(ta:TE)(t:TA):TE:=λσ H Q=>ta σ H λx H1=>∃a dx fs,x = .ref a/\H1 a=some (.ins C dx fs)/\fs.lookup m=none/\t σ H1 λvs H2=>sp (x::vs) H2 Q E0
def GB (C:Addr)(sp:Sp)(t:TA):TE:=λσ H Q=>t σ H λvs H1=>∀x dx,H1 x=none->H1 dx=none->dx≠x->sp (.ref x::vs) (upd (upd H1 dx (.own x)) x (.ins C dx [])) (λv H2=>v = .non/\Q (.ref x) H2) E0
theorem GU {sp:Sp}{t:TA}(h:t σ H λvs H1=>sp vs H1 Q E0):tF sp t σ H Q:=h
theorem FE {C:Addr}{m:Str}{sp:Sp}{t:TA}(h:ta σ H λx H1=>∃a dx fs,x = .ref a/\H1 a=some (.ins C dx fs)/\fs.lookup m=none/\t σ H1 λvs H2=>sp (x::vs) H2 Q E0):FD C m sp ta t σ H Q:=h
theorem FF {C:Addr}{sp:Sp}{t:TA}(h:t σ H λvs H1=>∀x dx,H1 x=none->H1 dx=none->dx≠x->sp (.ref x::vs) (upd (upd H1 dx (.own x)) x (.ins C dx [])) (λv H2=>v = .non/\Q (.ref x) H2) E0):GB C sp t σ H Q:=h
structure dC (K:PySem.W.Frag)(mg:Str->Option Value)(x:Str)(st:Stmt)(ps:List Str)(f:Addr)(fd:FuncData):Prop where
 fn:fX K x x st f fd
 b:dm K fd ps []
 m:mg x=some (.ref f)
structure lT (K:PySem.W.Frag)(C:Addr)(m qual:Str)(st:Stmt)(ps:List Str)(f:Addr)(fd:FuncData):Prop where
 fn:fX K m qual st f fd
 b:dm K fd ps []
 me:B5 K C m f
structure zn (K:PySem.W.Frag)(mg:Str->Option Value)(x:Str)(C f:Addr):Prop where
 cl:lS K C
 ma:Mk K C f
 m:mg x=some (.ref C)
variable {k:Nat}{f C:Addr}{fd:FuncData}{ps:List Str}{sp:Sp}{nm m qual:Str}{st:Stmt}{p pos apos:Pos}{e o:Expr}{es:List Expr}{tA:TA}
theorem bG (B:dC X.K X.mg nm st ps f fd)(F:aG X.prog X.w X.K X.mg X.base bO k f fd ps sp)(hr:dk k X.A)(ha:PA X (e::es) tA)(hg:Gl X nm:=by rfl)(hdb:(nm==("__debug__":Str))=false:=by decide)
  (he:starEach (e::es) X.env=(false,eval e X.env)::starEach es X.env:=by rfl) (hpl:(backTo pos (starEach es X.env)).any (·.1)=false:=by rfl):PE X (.Call (.Name nm p) (e::es) [] pos) (tF sp tA):=by
 intro pins s σ H Q I h;refine B9 (E:=E0) F hr hg B.m B.fn.kp B.b .nil qE ha hdb he hpl pins s σ H Q I ?_;show tA σ H λvs H1=>sp (vs++[]) H1 Q E0;simp only[append_nil];exact h
theorem cj (ho:PE X o ta)(c:lS X.K C)(B:lT X.K C m qual st ps f fd)(F:aG X.prog X.w X.K X.mg X.base bO k f fd ps sp)(hr:dk k X.A)(ha:PA X (e::es) tA){pl:Sem Bool}
  (hst:starEach (e::es) X.env=(false,eval e X.env)::starEach es X.env:=by rfl) (hpl:(backTo pos (starEach es X.env)).any (·.1)=false:=by rfl)
  (ht:eval (.Call (.Attribute o m apos) (e::es) [] pos) X.env=(do
   let ov <- eval o X.env
   standAt apos.atName
   let (f,first) <- holding [ov] (getMethod ov m pl)
   callWith pos f first (backTo pos (starEach (e::es) X.env)) (backToKw pos (keywordEach [] X.env))):=by rfl):PE X (.Call (.Attribute o m apos) (e::es) [] pos) (FD C m sp ta tA):=by
 intro pins s σ H Q I h;refine Ca (E:=E0) ho c B.me F hr B.b .nil qE ha hst hpl ht pins s σ H Q I ?_;show ta σ H λx H1=>∃a dx fs,x = .ref a/\H1 a=some (.ins C dx fs)/\fs.lookup m=none/\tA σ H1 λvs H2=>sp (x::(vs++[])) H2 Q E0;simp only[append_nil];exact h
theorem ff (ho:PE X o ta)(c:lS X.K C)(B:lT X.K C m qual st ps f fd)(F:aG X.prog X.w X.K X.mg X.base bO k f fd ps sp)(hr:dk k X.A){pl:Sem Bool}
  (ht:eval (.Call (.Attribute o m apos) [] [] pos) X.env=(do
   let ov <- eval o X.env
   standAt apos.atName
   let (f,first) <- holding [ov] (getMethod ov m pl)
   callWith pos f first (backTo pos (starEach [] X.env)) (backToKw pos (keywordEach [] X.env))):=by rfl):PE X (.Call (.Attribute o m apos) [] [] pos) (FD C m sp ta jk):=by
 intro pins s σ H Q I h;exact zN (E:=E0) ho c B.me F hr B.b .nil qE ht pins s σ H Q I h
theorem mS (B:zn X.K X.mg nm C f)(b:dm X.K fd ps [])(F:aG X.prog X.w X.K X.mg X.base bO k f fd ps sp)(hr:dk (k+1) X.A)(ha:PA X (e::es) tA)(hg:Gl X nm:=by rfl)(hdb:(nm==("__debug__":Str))=false:=by decide)
  (he:starEach (e::es) X.env=(false,eval e X.env)::starEach es X.env:=by rfl) (hpl:(backTo pos (starEach es X.env)).any (·.1)=false:=by rfl):PE X (.Call (.Name nm p) (e::es) [] pos) (GB C sp tA):=by
 intro pins s σ H Q I h;refine Cb (E:=E0) B.ma F hr hg B.m b .nil qE ha hdb he hpl pins s σ H Q I ?_;show tA σ H λvs H1=>∀x dx,H1 x=none->H1 dx=none->dx≠x->sp (.ref x::(vs++[])) (upd (upd H1 dx (.own x)) x (.ins C dx [])) (λv H2=>v = .non/\Q (.ref x) H2) E0;simp only[append_nil];exact h
theorem Am (B:zn X.K X.mg nm C f)(b:dm X.K fd ps [])(F:aG X.prog X.w X.K X.mg X.base bO k f fd ps sp)(hr:dk (k+1) X.A)(hg:Gl X nm:=by rfl)(hdb:(nm==("__debug__":Str))=false:=by decide):PE X (.Call (.Name nm p) [] [] pos) (GB C sp jk):=by intro pins s σ H Q I h;exact zO (E:=E0) B.ma F hr hg B.m b .nil qE hdb pins s σ H Q I h
end
section
variable {X:Cx}{K:PySem.W.Frag}{D:jj}{σ:St}{H:Hp}{Q:VK}{t u:TS}{te ta tb:TE}{i:Nat}{v x:V}{QB:Bool->Hp->Prop}{QL:List V->Hp->Prop}
theorem Cr {r:List V->Hp->VK->Prop}{t:TA}(h:t σ H λvs H1=>r vs H1 Q):Gn r t σ H Q:=h
theorem DM {wi:TI}{g:TG}{tb:TS}(h:wi σ H λJ H1=>∃W:Nat->Nat->St->Hp->Prop,(∃m,W 0 m σ H1)/\∀i m σ H,W i m σ H-> (J.stop i H/\D.nx σ H)\/(J.go i H/\∃N:St->Hp->Prop,(∀σ' H',N σ' H'->∃m',m'<m/\W (i+1) m' σ' H')/\∀x H',J.yld i H x H'->g x σ H' λσ2 H2=>tb { D with nx:=N,ct:=N,bk:=D.nx } σ2 H2)):Ec wi g tb D σ H:=h
theorem xo {R:It->Hp->Prop}(h:te σ H λx H1=>∃a,x = .ref a/\(∃xs,aR K H1 a xs)/\R (vo K a) H1):wQ K te σ H R:=h
theorem An {R:It->Hp->Prop}(h:te σ H λx H1=>∃a,x = .ref a/\(∃xs,eB K H1 a xs)/\R (E2 K a) H1):Fc K te σ H R:=h
theorem nU {Q:St->Hp->Prop}(h:Q (σ.set i (some v)) H):km i v σ H Q:=h
variable {CX:zm}{P:Program}{w:World}{mg:Str->Option Value}{base:Heap}{N:List Str}{q:Str}{sc:Scope}{f:Addr}{cdv:Value}{A:Around}{outer:List Env}{s:Shared}{E:XK}
theorem G8:(ny CX P w K mg base N q sc f cdv A outer s H E).nox.K=K:=rfl
theorem G9:(ny CX P w K mg base N q sc f cdv A outer s H E).nox.prog=P:=rfl
theorem Hd:(ny CX P w K mg base N q sc f cdv A outer s H E).nox.w=w:=rfl
theorem He:(ny CX P w K mg base N q sc f cdv A outer s H E).nox.mg=mg:=rfl
theorem Hf:(ny CX P w K mg base N q sc f cdv A outer s H E).nox.base=base:=rfl
end
theorem bb {α:Type}{g:α->V}{l:List α}{i:Nat}{y:V}(h:(l.map g)[i]?=some y):∃z,l[i]?=some z/\y=g z:=by
 rw[getElem?_map]at h;cases e:l[i]? with
 |none=>rw[e]at h;cases h
 |some z=>rw[e]at h;exact⟨z,rfl,(Option.some.inj h).symm⟩
theorem fg {α:Type}{g:α->V}{l:List α}{j:Nat}{z:α}(h:l[j]?=some z):Ce (l.map g) (j:Int)=some (g z):=aO (by rw[getElem?_map,h];rfl)
theorem aT {α:Type}:∀{l:List α} {i:Nat} {x:α},l[i]?=some x->l.take (i+1)=l.take i++[x]
 |[],i,x,h=>by simp at h
 |a::l,0,x,h=>by
  have e:a=x:=Option.some.inj h;subst e
  rfl
 |a::l,i+1,x,h=>by
  have ih:=aT (l:=l) (i:=i) (x:=x) h;show a::l.take (i+1)=a::l.take i++[x];rw[ih]
  rfl
abbrev LI (H:Hp)(a:Addr)(xs:List Int):Prop:=H a=some (.lst (xs.map V.int))
theorem LI.seq {K:PySem.W.Frag}{H:Hp}{a:Addr}{xs:List Int}(h:LI H a xs):aR K H a (xs.map V.int):=aR.of h
theorem fh {α β:Type}{R:α->β->Prop}:∀{as:List α} {bs:List β} {a:α} {b:β},Paired R as bs->R a b->Paired R (as++[a]) (bs++[b])
 |_,_,_,_,.nil,h=>.cons h .nil
 |_,_,_,_,.cons r t,h=>.cons r (fh t h)
theorem aK {α β:Type}{R S:α->β->Prop}:∀{as:List α} {bs:List β},Paired R as bs->(∀a∈as,∀b,R a b->S a b)->Paired S as bs
 |_,_,.nil,_=>.nil
 |_,_,.cons r t,h=>.cons (h _ (mem_cons_self ..) _ r) (aK t λa m=>h a (mem_cons_of_mem _ m))
theorem dj {α β:Type}{R:α->β->Prop}:∀{as:List α} {bs:List β} {i:Nat} {a:α},Paired R as bs->as[i]?=some a->∃b,bs[i]?=some b/\R a b
 |_,_,_,_,.nil,e=>by simp at e
 |_,_,0,_,.cons r _,e=>by simp at e;subst e;exact⟨_,rfl,r⟩
 |_,_,i+1,_,.cons _ t,e=>by obtain⟨b,h1,h2⟩:=dj (i:=i) t (by simpa using e);exact⟨b,by simpa using h1,h2⟩
theorem au.upd_new {H H':Hp}{l:Addr}{o:HO}(s:au H H')(n:H l=none):au H (upd H' l o):=λb u e=>by rw[ah (aj e n)];exact s b u e
theorem au.none_of {H H':Hp}{l:Addr}(s:au H H')(n:H' l=none):H l=none:=s.free n
section
variable {J:It}{n:Nat}{K:PySem.W.Frag}
theorem uv {g:TG}{tt:TT}{te:TE}{vs:List Nat}{σ:St}{Q:VK}{D:Addr}{H0:Hp}(Pv:Nat->Hp->Prop)(h0:Pv 0 H0)(hst:∀H,Pv n H->J.stop n H)(hgo:∀i H,i<n->Pv i H->J.go i H)
  (hs:∀i H x H',i<n->Pv i H->J.yld i H x H'->g x (eW σ vs) H' λσ2 H2=>eW σ2 vs=eW σ vs/\tt σ2 H2 λb H3=>if b=true then te σ2 H3 λy H4=>∃acc,H4 D=some (.lst acc)/\acc.length<sizeLine/\Pv (i+1) (upd H4 D (.lst (acc++[y])))else Pv (i+1) H3)
  (hd:∀H,Pv n H->Q (.ref D) H):∃W:Nat->Nat->Hp->Prop,(∃m,W 0 m H0)/\∀i m H,W i m H->
   (J.stop i H/\Q (.ref D) H)\/(J.go i H/\∃Nx:Hp->Prop,(∀H',Nx H'->∃m',m'<m/\W (i+1) m' H')/\∀x H',J.yld i H x H'->g x (eW σ vs) H' λσ2 H2=>eW σ2 vs=eW σ vs/\tt σ2 H2 λb H3=>if b=true then te σ2 H3 λy H4=>∃acc,H4 D=some (.lst acc)/\acc.length<sizeLine/\Nx (upd H4 D (.lst (acc++[y])))else Nx H3):=by
 refine⟨λi m H=>m=n-i/\i<=n/\Pv i H,⟨n,by simp,zero_le _,h0⟩,?_⟩;rintro i m H ⟨rfl,hi,p⟩;by_cases hlt:i<n
 .exact .inr ⟨hgo i H hlt p,Pv (i+1),λH' p'=>⟨n-(i+1),by omega,rfl,hlt,p'⟩,λx H' y=>hs i H x H' hlt p y⟩
 .have e:i=n:=by omega
  subst e;exact .inl ⟨hst H p,hd H p⟩
theorem sg {g:TG}{tb:TS}{D:jj}{σ:St}{H0:Hp}(Pv:Nat->St->Hp->Prop)(h0:Pv 0 σ H0)(hst:∀σ H,Pv n σ H->J.stop n H)(hgo:∀i σ H,i<n->Pv i σ H->J.go i H)
  (hs:∀i σ H x H',i<n->Pv i σ H->J.yld i H x H'->g x σ H' λσ2 H2=>tb { D with nx:=Pv (i+1),ct:=Pv (i+1),bk:=D.nx } σ2 H2) (hd:∀σ H,Pv n σ H->D.nx σ H) :
  ∃W:Nat->Nat->St->Hp->Prop,(∃m,W 0 m σ H0)/\∀i m σ H,W i m σ H->
   (J.stop i H/\D.nx σ H)\/(J.go i H/\∃N:St->Hp->Prop,(∀σ' H',N σ' H'->∃m',m'<m/\W (i+1) m' σ' H')/\∀x H',J.yld i H x H'->g x σ H' λσ2 H2=>tb { D with nx:=N,ct:=N,bk:=D.nx } σ2 H2):=by
 refine⟨λi m σ H=>m=n-i/\i<=n/\Pv i σ H,⟨n,by simp,zero_le _,h0⟩,?_⟩;rintro i m σ H ⟨rfl,hi,p⟩;by_cases hlt:i<n
 .exact .inr ⟨hgo i σ H hlt p,Pv (i+1),λσ' H' p'=>⟨n-(i+1),by omega,rfl,hlt,p'⟩,λx H' y=>hs i σ H x H' hlt p y⟩
 .have e:i=n:=by omega
  subst e;exact .inl ⟨hst σ H p,hd σ H p⟩
theorem Ao {wi:TI}{g:TG}{tt:TT}{te:TE}{vs:List Nat}{σ:St}{H:Hp}{Q:VK}(h:wi σ H λJ H1=>∀D,H1 D=none->∃W:Nat->Nat->Hp->Prop,(∃m,W 0 m (upd H1 D (.lst [])))/\∀i m H,W i m H-> (J.stop i H/\Q (.ref D) H)\/(J.go i H/\∃Nx:Hp->Prop,(∀H',Nx H'->∃m',m'<m/\W (i+1) m' H')/\∀x H',J.yld i H x H'->g x (eW σ vs) H' λσ2 H2=>eW σ2 vs=eW σ vs/\tt σ2 H2 λb H3=>if b=true then te σ2 H3 λy H4=>∃acc,H4 D=some (.lst acc)/\acc.length<sizeLine/\Nx (upd H4 D (.lst (acc++[y])))else Nx H3)):E3 wi g tt te vs σ H Q:=h
theorem DN {σ:St}{H:Hp}{QB:Bool->Hp->Prop}(h:QB true H):Fp σ H QB:=h
theorem Ap {te:TE}{σ:St}{H:Hp}{R:It->Hp->Prop}(h:te σ H λv H1=>∃x,v = .str x/\R (Gd x) H1):Ft te σ H R:=h
end
def Aq (N:List Str)(sc scope:Scope)(own:List (Str×Nat)):Bool:=decide (scope.kind = .function)&&(decide (∀y∈scope.names,scope.names.lookup y.1=some y.2)&&(decide (∀p∈own,N[p.2]?=some p.1) && (decide (∀y∈scope.names,y.2 = .free->sc.names.lookup y.1=some .cell\/sc.names.lookup y.1=some .free)&&decide (∀y∈scope.names,y.2 = .local\/y.2 = .cell->y.1∈own.map (·.1)\/y.1∉N))))
theorem dI {N:List Str}{sc scope:Scope}{own:List (Str×Nat)}(h:Aq N sc scope own=true):uc N sc scope own:=by unfold Aq at h;simp only[and_eq_true,decide_eq_true_eq]at h;exact⟨h.1,h.2.1,h.2.2.1,h.2.2.2.1,h.2.2.2.2⟩
theorem yu {X:Cx}(K:PySem.W.Frag)(h:X.K=K:=by rfl):ij X (.builtin "len") (λxs H Q=>∃p ys,xs=[V.ref p]/\(aR K H p ys\/eB K H p ys)/\Q (.int ys.length) H):=by subst h;exact ax
theorem nV {X:Cx}(K:PySem.W.Frag){e:Expr}{f:Str}{pos:Pos}{ta:TE}(he:PE X e ta)(hb:attributeBase e f X.env (eval e X.env)=eval e X.env)(h:X.K=K:=by rfl):PE X (.Attribute e f pos) (tU K ta f):=by subst h;exact am he hb
theorem lj {X:Cx}(K:PySem.W.Frag)(h:X.K=K:=by rfl):Ga X (Eg K):=by subst h;exact aJ
section
variable {K:PySem.W.Frag}{σ:St}{H:Hp}{Q:VK}{te:TE}{QO:Option Int->Hp->Prop}
theorem FG {r:V->Option Int->Option Int->Hp->VK->Prop}{tl th:TO}(h:te σ H λx H1=>tl σ H1 λl H2=>th σ H2 λu H3=>r x l u H3 Q):GQ r te tl th σ H Q:=h
theorem uw (h:QO none H):wU σ H QO:=h
theorem Ar (h:te σ H λx H1=>∃i,x = .int i/\QO (some i) H1):Dr te σ H QO:=h
theorem DO {i:Int}{P:Int->Prop}(h:P i):∃j,V.int i = .int j/\P j:=⟨i,rfl,h⟩
theorem As {a:Addr}{xs:List V}{lo hi:Option Int}(hs:aR K H a xs)(h:∀p,H p=none->Q (.ref p) (upd H p (.lst (nz xs lo hi)))):Fm K (.ref a) lo hi H Q:=⟨a,xs,rfl,hs,h⟩
end
theorem Cs (x:V)(xs:List V):nz (x::xs) (some 1) none=xs:=by
 unfold nz;have e1:HT.sIx (x::xs).length 0 (some 1)=1:=by show(if (1:Int)<0 then((1:Int)+((x::xs).length:Int)).toNat else min (1:Int).toNat (x::xs).length)=1;rw[if_neg (by decide)];show min 1 (xs.length+1)=1;omega
 rw[e1,HT.sIx_none];show(xs.take (xs.length+1-1))=xs;exact take_length
theorem lm {K:PySem.W.Frag}{H:Hp}:∀ns:List Int,oQ K H (ns.map V.int) (ns.map PyData.int)
 |[]=>.nil
 |n::r=>.cons (.int n) (lm r)
section
variable {H:Hp}{Q:VK}{n:Int}{a:Addr}
end
section
variable {A B:Prop}{n:Int}{a:Addr}
theorem DP {P:Prop}(h:P):V.non=V.non/\P:=⟨rfl,h⟩
theorem FH (h:A):if decide (V.non=V.non)=true then A else B:=by rw[decide_eq_true rfl];exact rZ h
theorem FI (h:B):if decide (V.int n=V.non)=true then A else B:=by rw[decide_eq_false (λe=>nomatch e)];exact jz h
theorem FJ (h:B):if decide (V.ref a=V.non)=true then A else B:=by rw[decide_eq_false (λe=>nomatch e)];exact jz h
theorem FK (h:B):if (!decide (V.non=V.non))=true then A else B:=by rw[decide_eq_true rfl];exact jz h
theorem FL (h:A):if (!decide (V.ref a=V.non))=true then A else B:=by rw[decide_eq_false (λe=>nomatch e)];exact rZ h
end
section
variable {P:Program}{w:World}{K:PySem.W.Frag}{σ:St}{H:Hp}{Q:VK}{td ty:TE}
theorem DQ {R:It->Hp->Prop}(h:td σ H λx H1=>∃d kvs,x = .ref d/\gO P w K d kvs/\R (E4 kvs) H1):Ad P w K td σ H R:=h
theorem Au (h:td σ H λx H1=>ty σ H1 λy H2=>∃a kvs k v,x = .ref a/\gO P w K a kvs/\y=kV k/\cS kvs k=some v/\Q v H2):DA P w K td ty σ H Q:=h
end
theorem Av {A B:Prop}(h:A):if (!false)=true then A else B:=rZ h
theorem DR {A B:Prop}(h:B):if (!true)=true then A else B:=jz h
theorem xp {ta:TA}{σ:St}{H:Hp}{R:It->Hp->Prop}(h:ta σ H λvs H1=>∃j:Int,vs=[.int j]/\-(2^62)<=j/\j<2^62/\R (x9 0 j.toNat) H1):Dk ta σ H R:=h
theorem xq {ta:TA}{σ:St}{H:Hp}{R:It->Hp->Prop}(h:ta σ H λvs H1=>∃i j:Int,vs=[.int i,.int j]/\(-(2^62)<=i/\i<2^62/\-(2^62)<=j/\j<2^62)/\R (x9 i (j-i).toNat) H1):Dl ta σ H R:=h
end L2
namespace PySem
section
variable {prog:Program}{w:World}{A:Around}{E:Value->Shared->Prop}{s:Shared}
theorem Aw {ti tu:Addr}{n:Nat}{its:Array Value}{v:Value}{Q:Value->Shared->Prop}(hI:s.heap.IsTupleIter ti tu n)(hT:s.heap.IsTuple tu its)(hv:its[n]?=some v)
  (k:∀g,g.IsTupleIter ti tu (n+1)->SameBut ti s.heap g->Q v { s with heap:=g }):wpAny (model prog w) A (Builtin.SmallTypes.nextOf (.ref ti)) Q E s:=by
 obtain⟨oi,oi1,oi2,oi3⟩:=id hI;obtain⟨ot,ot1,_,nt,ot3⟩:=hT;unfold Builtin.SmallTypes.nextOf;refine wpAny_bind (wpAny_callSpecial?_slot (name:=Str.ofString "__next__") hI.typeIs F.slot_tuple_iterator_next (wpAny_call_entry F.slot_tuple_iterator_next hI.typeIs F.entry_tuple_iterator_next ?_ (F.args_tuple_iterator_next_1 _)));show wpAny _ _ (field (.ref ti) 0 >>= _) _ _ s;refine wpAny_bind (wpAny_field oi1 oi3 (x:=.ref tu) rfl ?_);show wpAny _ _ (if (Value.ref tu==Value.none)=true then _ else _) _ _ s;rw[if_neg (show¬((Value.ref tu==Value.none)=true)from Bool.false_ne_true)];show wpAny _ _ (field (.ref ti) 1 >>= _) _ _ s;refine wpAny_bind (wpAny_field oi1 oi3 (x:=.int n 0) rfl ?_);show wpAny _ _ (seqItems? (.ref tu) >>= _) _ _ s;refine wpAny_bind (wpAny_seqItems ot1 ot3 ?_);simp only[toNat_natCast,hv];refine wpAny_bind (wpAny_setField oi1 oi3 (by simp) (wpAny_pure ⟨v,rfl,wpAny_pure (k _ ?_ (SameBut.update ..))⟩));refine⟨_,Heap.get?_update_self _ oi1 (Obj.isFreed_of_fields (Obj.data_mapFields oi3 _)),(Obj.cls_mapFields ..).trans oi2,?_⟩;rw[Obj.data_mapFields oi3];simp[rawInt]
theorem Ax {z TI TO ia ib la lb:Addr}{ka kb:Nat}{xs ys:Array Value}{x y p q:Value}{Q:Value->Shared->Prop}(D:ZipApart z TI TO ia ib la lb)(Hz:IsZip s.heap z TI TO .none)(HI:IsPair s.heap TI (.ref ia) (.ref ib))(HO:IsPair s.heap TO p q)
  (Ha:s.heap.IsListIter ia la ka) (Hb:s.heap.IsTupleIter ib lb kb) (La:s.heap.IsList la xs) (Lb:s.heap.IsTuple lb ys) (ex:xs[ka]?=some x) (ey:ys[kb]?=some y)
  (k:∀g,IsZip g z TI TO (rawInt s.heap.objs.size)->IsPair g TO x y->g.IsListIter ia la (ka+1)->g.IsTupleIter ib lb (kb+1)->IsPair g s.heap.objs.size x y->g.objs.size=s.heap.objs.size+1-> (∀c o,c≠z->c≠TO->c≠ia->c≠ib->s.heap.get? c=some o->g.get? c=some o)->Q (.ref s.heap.objs.size) { s with heap:=g }) :
  wpAny (model prog w) A (Builtin.«zip.__next__» ⟨[.ref z],[]⟩) (λr s'=>∃v,r = .done (.ret v)/\Q v s') E s:=by
 show wpAny _ _ (field (.ref z) 2 >>= _) _ _ _;refine wpAny_bind (wpAny_field Hz rfl (x:=.bool false) rfl ?_);show wpAny _ _ (field (.ref z) 3 >>= _) _ _ _;refine wpAny_bind (wpAny_field Hz rfl (x:=.ref TI) rfl ?_);refine wpAny_bind (wpAny_seqItems HI rfl ?_);show wpAny _ _ (Builtin.SmallTypes.ownedTupleIsFree (.ref z) >>= _) _ _ _;refine wpAny_bind ?_;unfold Builtin.SmallTypes.ownedTupleIsFree;refine wpAny_bind (wpAny_field Hz rfl (x:=.none) rfl (wpAny_pure ?_));simp only[if_true];refine wpAny_bind (wpAny_rule ?_);refine wpAny_bind (wpAny_field Hz rfl (x:=.ref TO) rfl ?_);refine wpAny_bind (wpAny_setField_rec Hz (by simp) λg1 z1 b1=>?_);replace z1:IsZip g1 z TI TO .ellipsis:=z1;refine wpAny_bind ?_;simp only[List.zipIdx_cons,List.zipIdx_nil,List.forIn_cons,List.forIn_nil];refine wpAny_bind (wpAny_bind (wpAny_onRaise ?_));show wpAny _ _ (Builtin.SmallTypes.nextOf (.ref ia) >>= _) _ _ _;refine wpAny_bind (wpAny_nextOf_list_item (Ha.extBut b1.extBut D.i1z) (La.extBut b1.extBut D.l1z) ex λg2 a2 b2=>wpAny_pure ?_);have o2:IsPair g2 TO p q:=b2.extBut _ _ D.TOi1 (b1.extBut _ _ D.TOz HO);refine wpAny_bind (wpAny_seqItems o2 rfl ?_);refine wpAny_bind (wpAny_updateSeq_pair o2 λg3 o3 b3=>?_);replace o3:IsPair g3 TO x q:=o3;refine wpAny_bind (wpAny_letGo (wpAny_pure ?_));refine wpAny_bind (wpAny_bind (wpAny_onRaise ?_));show wpAny _ _ (Builtin.SmallTypes.nextOf (.ref ib) >>= _) _ _ _;have Hb3:g3.IsTupleIter ib lb kb:=((Hb.extBut b1.extBut D.i2z).extBut b2.extBut D.i12.symm).extBut b3.extBut D.TOi2.symm;have Lb3:g3.IsTuple lb ys:=by obtain⟨o,e,r⟩:=Lb;exact⟨o,b3.extBut _ _ D.l2TO (b2.extBut _ _ D.l2i1 (b1.extBut _ _ D.l2z e)),r⟩
 refine wpAny_bind (Aw Hb3 Lb3 ey λg4 a4 b4=>wpAny_pure ?_);have o4:IsPair g4 TO x q:=b4.extBut _ _ D.TOi2 o3;refine wpAny_bind (wpAny_seqItems o4 rfl ?_);refine wpAny_bind (wpAny_updateSeq_pair o4 λg5 o5 b5=>?_);replace o5:IsPair g5 TO x y:=o5;refine wpAny_bind (wpAny_letGo (wpAny_pure (wpAny_pure ?_)));refine wpAny_bind (wpAny_seqItems o5 rfl ?_);refine wpAny_bind (wpAny_newTuple ?_);have sz:g5.objs.size=s.heap.objs.size:=by rw[b5.1,b4.1,b3.1,b2.1,b1.1]
 have z5:IsZip g5 z TI TO .ellipsis:=b5.extBut _ _ D.TOz.symm (b4.extBut _ _ D.i2z.symm (b3.extBut _ _ D.TOz.symm (b2.extBut _ _ D.i1z.symm z1)));have k5:∀c o,c≠z->c≠TO->c≠ia->c≠ib->s.heap.get? c=some o->g5.get? c=some o:=λc o n1 n2 n3 n4 e=>b5.extBut _ _ n2 (b4.extBut _ _ n4 (b3.extBut _ _ n2 (b2.extBut _ _ n3 (b1.extBut _ _ n1 e))));have a5:g5.IsListIter ia la (ka+1):=((a2.extBut b3.extBut D.TOi1.symm).extBut b4.extBut D.i12).extBut b5.extBut D.TOi1.symm;have c5:g5.IsTupleIter ib lb (kb+1):=a4.extBut b5.extBut D.TOi2.symm;have lz:z<g5.objs.size:=lt_size z5;show wpAny _ _ (Builtin.SmallTypes.ownedTupleHandOut (.ref z) (.ref g5.objs.size) >>= _) _ _ _;refine wpAny_bind ?_;unfold Builtin.SmallTypes.ownedTupleHandOut;have z6:IsZip (g5.push { cls:=.type "tuple",data:=.seq #[x,y] }) z TI TO .ellipsis:=get?_push_of_some _ z5;refine wpAny_bind (wpAny_setField_rec z6 (by simp) λg7 z7 b7=>?_);replace z7:IsZip g7 z TI TO (rawInt g5.objs.size):=z7;refine wpAny_setField_rec z7 (by simp) λg8 z8 b8=>?_;replace z8:IsZip g8 z TI TO (rawInt g5.objs.size):=z8;have up:∀c o,c≠z->g5.get? c=some o->g8.get? c=some o:=λc o n1 e=>b8.extBut _ _ n1 (b7.extBut _ _ n1 (get?_push_of_some _ e));have t8:IsPair g8 g5.objs.size x y:=b8.extBut _ _ (ne_of_gt lz) (b7.extBut _ _ (ne_of_gt lz) (get?_push_size _ rfl));have s8:g8.objs.size=g5.objs.size+1:=by rw[b8.1,b7.1,size_push]
 rw[sz]at z8 t8 s8;refine wpAny_pure ⟨_,rfl,?_⟩;show Q (.ref g5.objs.size) _;rw[sz];refine k g8 z8 (up _ _ D.TOz o5) (a5.at λo e=>up _ o D.i1z e) ?_ t8 s8 λc o n1 n2 n3 n4 e=>up c o n1 (k5 c o n1 n2 n3 n4 e);obtain⟨o,e,r⟩:=c5;exact⟨o,up _ o D.i2z e,r⟩
theorem Ct {z TI TO ia ib la lb:Addr}{ka kb:Nat}{xs:Array Value}{p q:Value}{Q:Fin->Shared->Prop}(hh:A.handled=none)(D:ZipApart z TI TO ia ib la lb)(Hz:IsZip s.heap z TI TO .none)(HI:IsPair s.heap TI (.ref ia) (.ref ib))(HO:IsPair s.heap TO p q)
  (Ha:s.heap.IsListIter ia la ka) (La:s.heap.IsList la xs) (ex:xs[ka]?=none)
  (k:∀g e,(∀c o,c≠z->c≠TO->c≠ia->c≠ib->s.heap.get? c=some o->g.get? c=some o)->(∃o,g.get? e=some o/\o.cls = .type "StopIteration")->E (.ref e) { s with heap:=g }) :
  wpAny (model prog w) A (Builtin.«zip.__next__» ⟨[.ref z],[]⟩) Q E s:=by
 show wpAny _ _ (field (.ref z) 2 >>= _) _ _ _;refine wpAny_bind (wpAny_field Hz rfl (x:=.bool false) rfl ?_);show wpAny _ _ (field (.ref z) 3 >>= _) _ _ _;refine wpAny_bind (wpAny_field Hz rfl (x:=.ref TI) rfl ?_);refine wpAny_bind (wpAny_seqItems HI rfl ?_);show wpAny _ _ (Builtin.SmallTypes.ownedTupleIsFree (.ref z) >>= _) _ _ _;refine wpAny_bind ?_;unfold Builtin.SmallTypes.ownedTupleIsFree;refine wpAny_bind (wpAny_field Hz rfl (x:=.none) rfl (wpAny_pure ?_));simp only[if_true];refine wpAny_bind (wpAny_rule ?_);refine wpAny_bind (wpAny_field Hz rfl (x:=.ref TO) rfl ?_);refine wpAny_bind (wpAny_setField_rec Hz (by simp) λg1 z1 b1=>?_);replace z1:IsZip g1 z TI TO .ellipsis:=z1;refine wpAny_bind ?_;simp only[List.zipIdx_cons,List.zipIdx_nil,List.forIn_cons,List.forIn_nil];refine wpAny_bind (wpAny_bind (wpAny_onRaise ?_));show wpAny _ _ (Builtin.SmallTypes.nextOf (.ref ia) >>= _) _ _ _;refine wpAny_bind (wpAny_nextOf_list_end hh (Ha.extBut b1.extBut D.i1z) (La.extBut b1.extBut D.l1z) ex λg2 e b2 he=>?_);obtain⟨oe,oe1,oe2⟩:=he;have z2:IsZip g2 z TI TO .ellipsis:=b2 _ _ D.i1z.symm z1;have ne:e≠z:=λr=>by subst r;rw[z2]at oe1;cases oe1;simp at oe2
 exact wpAny_setField_rec z2 (by simp) λg3 _ b3=>k g3 e (λc o n1 _ n3 _ r=>b3.extBut _ _ n1 (b2 _ _ n3 (b1.extBut _ _ n1 r))) ⟨oe,b3.extBut _ _ ne oe1,oe2⟩
theorem yw {z TI TO ia ib la lb:Addr}{ka kb:Nat}{xs ys:Array Value}{x y p q:Value}{Q:Option Value->Shared->Prop}(D:ZipApart z TI TO ia ib la lb)(Hz:IsZip s.heap z TI TO .none)(HI:IsPair s.heap TI (.ref ia) (.ref ib))(HO:IsPair s.heap TO p q)
  (Ha:s.heap.IsListIter ia la ka) (Hb:s.heap.IsTupleIter ib lb kb) (La:s.heap.IsList la xs) (Lb:s.heap.IsTuple lb ys) (ex:xs[ka]?=some x) (ey:ys[kb]?=some y)
  (k:∀g,IsZip g z TI TO (rawInt s.heap.objs.size)->IsPair g TO x y->g.IsListIter ia la (ka+1)->g.IsTupleIter ib lb (kb+1)->IsPair g s.heap.objs.size x y->g.objs.size=s.heap.objs.size+1-> (∀c o,c≠z->c≠TO->c≠ia->c≠ib->s.heap.get? c=some o->g.get? c=some o)->Q (some (.ref s.heap.objs.size)) { s with heap:=g }):wpAny (model prog w) A (pyNext (.ref z)) Q E s:=by
 have ty:s.TypeIs (.ref z) "zip":=⟨_,Hz,rfl⟩
 unfold pyNext;exact wpAny_bind (wpAny_attempt (wpAny_callSpecial?_slot (name:=Str.ofString "__next__") ty F.slot_zip_next (wpAny_call_entry F.slot_zip_next ty F.entry_zip_next (Ax D Hz HI HO Ha Hb La Lb ex ey λg r1 r2 r3 r4 r5 r6 r7=>wpAny_pure (k g r1 r2 r3 r4 r5 r6 r7)) (F.args_zip_next_1 _))))
theorem yx {z TI TO ia ib la lb:Addr}{ka kb:Nat}{xs:Array Value}{p q:Value}{Q:Option Value->Shared->Prop}(hh:A.handled=none)(D:ZipApart z TI TO ia ib la lb)(Hz:IsZip s.heap z TI TO .none)(HI:IsPair s.heap TI (.ref ia) (.ref ib))(HO:IsPair s.heap TO p q)
  (Ha:s.heap.IsListIter ia la ka) (La:s.heap.IsList la xs) (ex:xs[ka]?=none)
  (k:∀g,(∀c o,c≠z->c≠TO->c≠ia->c≠ib->s.heap.get? c=some o->g.get? c=some o)->Q none { s with heap:=g }):wpAny (model prog w) A (pyNext (.ref z)) Q E s:=by
 have ty:s.TypeIs (.ref z) "zip":=⟨_,Hz,rfl⟩
 unfold pyNext;refine wpAny_bind (wpAny_attempt (wpAny_callSpecial?_slot (name:=Str.ofString "__next__") ty F.slot_zip_next (wpAny_call_entry F.slot_zip_next ty F.entry_zip_next (Ct (kb:=kb) hh D Hz HI HO Ha La ex λg e r1 r2=>?_) (F.args_zip_next_1 _))));obtain⟨o,o1,o2⟩:=r2;refine wpAny_bind (wpAny_isInstance (T := "StopIteration") (b:=true) ⟨o,o1,o2⟩ isSubtype_stop ?_);exact wpAny_pure (k _ r1)
abbrev Cu (h:Heap)(la:Addr):Heap:=h.push { cls:=.type "list_iterator",data:=.fields #[.ref la,.int 0 0] }
abbrev Cv (h:Heap)(la lb:Addr):Heap:=(Cu h la).push { cls:=.type "tuple_iterator",data:=.fields #[.ref lb,.int 0 0] }
abbrev Cw (h:Heap)(la lb:Addr):Heap:=(Cv h la lb).push { cls:=.type "tuple",data:=.seq #[.ref h.objs.size,.ref (Cu h la).objs.size] }
abbrev Cy (h:Heap)(la lb:Addr):Heap:=(Cw h la lb).push { cls:=.type "tuple",data:=.seq #[.none,.none] }
abbrev vQ (h:Heap)(la lb:Addr):Heap:=(Cy h la lb).push { cls:=.type "zip",data:=.fields #[.none,.bool false,.bool false,.ref (Cv h la lb).objs.size,.ref (Cw h la lb).objs.size] }
theorem Cz (la lb:Addr)(xs ys:Array Value):Meets (Builtin.«zip.__new__» ⟨[.type "zip",.ref la,.ref lb],[]⟩) (λ_ R s=>s.heap.IsList la xs/\s.heap.IsTuple lb ys/\ R (.ok (.ret (.ref (Cy s.heap la lb).objs.size))) { s with heap:=vQ s.heap la lb }):=.of_wp λprog w A R s h=>by
  obtain⟨hp,g,d,tk,os⟩:=s;obtain⟨ha,hb,h⟩:=h;have hsub:=sub_zip;have HA:Heap.IsList (Shared.heap ⟨hp,g,d,tk,os⟩) la xs:=ha;have HB:Heap.IsTuple (Shared.heap ⟨hp.push { cls:=.type "list_iterator",data:=.fields #[.ref la,.int 0 0] },g,d,tk,os⟩) lb ys:=by obtain⟨o,e,r⟩:=hb;exact⟨o,get?_push_of_some _ e,r⟩
  wp_walk using wpAny_pyIter_list HA,wpAny_pyIter_tuple HB
  exact⟨_,rfl,h⟩
theorem Ay {la lb:Addr}{xs ys:Array Value}{Q:Value->Shared->Prop}(ha:s.heap.IsList la xs)(hb:s.heap.IsTuple lb ys)
  (h:∀g,IsZip g (s.heap.objs.size+4) (s.heap.objs.size+2) (s.heap.objs.size+3) .none->IsPair g (s.heap.objs.size+2) (.ref s.heap.objs.size) (.ref (s.heap.objs.size+1))-> IsPair g (s.heap.objs.size+3) .none .none->g.IsListIter s.heap.objs.size la 0->g.IsTupleIter (s.heap.objs.size+1) lb 0->g.objs.size=s.heap.objs.size+5-> (∀c o,s.heap.get? c=some o->g.get? c=some o)->Q (.ref (s.heap.objs.size+4)) { s with heap:=g }):wpAny (model prog w) A (call (.type "zip") [.ref la,.ref lb]) Q E s:=by
 refine callType_new F.called_zip (by decide) (F.typeCall_zip_2 _ _) (F.newCall_zip_2 _ _) (λobj=>F.args_object_init_3 obj _ _) F.entry_zip_new (Cz la lb xs ys) ⟨ha,hb,?_⟩;have n1:(Cu s.heap la).objs.size=s.heap.objs.size+1:=size_push ..;have n2:(Cv s.heap la lb).objs.size=s.heap.objs.size+2:=by rw[size_push,n1]
 have n3:(Cw s.heap la lb).objs.size=s.heap.objs.size+3:=by rw[size_push,n2]
 have n4:(Cy s.heap la lb).objs.size=s.heap.objs.size+4:=by rw[size_push,n3]
 have n5:(vQ s.heap la lb).objs.size=s.heap.objs.size+5:=by rw[size_push,n4]
 have q5:(vQ s.heap la lb).get? (Cy s.heap la lb).objs.size=some _:=get?_push_size _ rfl;have q4:(vQ s.heap la lb).get? (Cw s.heap la lb).objs.size=some _:=get?_push_of_some _ (get?_push_size _ rfl);have q3:(vQ s.heap la lb).get? (Cv s.heap la lb).objs.size=some _:=get?_push_of_some _ (get?_push_of_some _ (get?_push_size _ rfl));have q2:(vQ s.heap la lb).get? (Cu s.heap la).objs.size=some _:=get?_push_of_some _ (get?_push_of_some _ (get?_push_of_some _ (get?_push_size _ rfl)));have q1:(vQ s.heap la lb).get? s.heap.objs.size=some _:=get?_push_of_some _ (get?_push_of_some _ (get?_push_of_some _ (get?_push_of_some _ (get?_push_size _ rfl))));show _/\_;rw[n2,n3,n4]at q5;rw[n1,n2]at q3;rw[n3]at q4;rw[n1]at q2;rw[n4];refine⟨⟨_,q5,rfl⟩,h _ q5 q3 q4 ⟨_,q1,rfl,rfl⟩ ⟨_,q2,rfl,rfl⟩ n5 λc o x=>?_⟩;exact get?_push_of_some _ (get?_push_of_some _ (get?_push_of_some _ (get?_push_of_some _ (get?_push_of_some _ x))))
end
end PySem
namespace L2
open PyProof.Rows
def CA (K:PySem.W.Frag)(a b:Addr):It:=⟨λi H=>∃(xs ys:List V) (x y:V),aR K H a xs/\eB K H b ys/\xs[i]?=some x/\ys[i]?=some y,λi H v H'=>∃T x y,v = .ref T/\H T=none/\H'=upd H T (.tup [x,y])/\(∀xs,aR K H a xs->xs[i]?=some x)/\∀ys,eB K H b ys->ys[i]?=some y,λi H=>∃xs:List V,aR K H a xs/\xs.length<=i⟩
theorem yy {P:Program}{w:World}{K:PySem.W.Frag}{elts:List Expr}{kk:Nat}{tpos:Pos}{a b z TI TO i1 i2:Addr}(D:ZipApart z TI TO i1 i2 a b) :
  nv P w K (.Tuple elts kk tpos) (CA K a b) [z,TI,TO,i1,i2] z (λi h=>IsZip h z TI TO .none/\IsPair h TI (.ref i1) (.ref i2)/\(∃x y,IsPair h TO x y)/\h.IsListIter i1 a i/\h.IsTupleIter i2 b i) where
 mem:=by simp
 obj:=λi h st c hc=>by
  obtain⟨hz,hTI,⟨x,y,hTO⟩,⟨o1,e1,_,d1⟩,⟨o2,e2,_,d2⟩⟩:=st;have e':c=z\/c=TI\/c=TO\/c=i1\/c=i2:=by simpa using hc
  rcases e' with q|q|q|q|q
  .rw[q];exact⟨_,hz,λv q=>nomatch q⟩
  .rw[q];exact⟨_,hTI,λv q=>nomatch q⟩
  .rw[q];exact⟨_,hTO,λv q=>nomatch q⟩
  .rw[q];exact⟨o1,e1,λv q=>by rw[d1]at q;cases q⟩
  .rw[q];exact⟨o2,e2,λv q=>by rw[d2]at q;cases q⟩
 keep:=λi h h' st k=>by obtain⟨hz,hTI,⟨x,y,hTO⟩,h1,⟨o2,e2,r2⟩⟩:=st;exact⟨k z (by simp) _ hz,k TI (by simp) _ hTI,⟨x,y,k TO (by simp) _ hTO⟩,h1.at λo q=>k i1 (by simp) o q,⟨o2,k i2 (by simp) o2 e2,r2⟩⟩
 item:=by
  intro X hP hw hK hc i pins s σ H E I hf st hg;subst hP hw hK;obtain⟨hz,hTI,⟨x0,y0,hTO⟩,h1,h2⟩:=st;obtain⟨xs,ys,x,y,hqx,hqy,hx,hy⟩:=hg;obtain⟨its,rv,p,_⟩:=I.list hqx;obtain⟨its2,rv2,p2,_⟩:=I.tuple hqy;obtain⟨u,hu,ru⟩:=rv.get hx;obtain⟨u2,hu2,ru2⟩:=rv2.get hy;have hzl:z<s.heap.objs.size:=lt_size hz;refine yw D hz hTI hTO h1 h2 p.isList p2 (x:=u) (y:=u2) (by simpa using hu) (by simpa using hu2) λh' z' TO' h1' h2' hT hsz hk=>?_;refine⟨_,rfl,wpAny_letOwnedTupleGo_zip (s:={ s with heap:=h' }) z' λh'' z'' sb=>?_⟩;have hT2:h''.get? s.heap.objs.size=some { cls:=.type "tuple",data:=.seq #[u,u2] }:=(sb.2 _ (ne_of_gt hzl)).trans hT;have new:cX X.prog X.w (upd H s.heap.objs.size (.tup [x,y])) h'' s.heap.objs.size (.tup [x,y]):=⟨by show 2<=sizeLine;decide,[u,u2],.cons ru (.cons ru2 .nil),⟨_,hT2,rfl,_,rfl⟩⟩
  have I1:aH X pins σ (upd H s.heap.objs.size (.tup [x,y])) { s with heap:=h'' }:=I.turnedNew (t':=s.toks) (ch:=[z,TI,TO,i1,i2]) (λc o hb q=>(sb.2 c (λq'=>hb (by simp[q']))).trans (hk c o (λq'=>hb (by simp[q'])) (λq'=>hb (by simp[q'])) (λq'=>hb (by simp[q'])) (λq'=>hb (by simp[q'])) q)) hf (Nat.le_refl _) new;refine⟨.ref s.heap.objs.size,_,I1,rfl,⟨_,x,y,rfl,I.hok.fresh (Nat.le_refl _),rfl,λl hl=>by rw[I.list_inj hl hqx];exact hx,λl hl=>by rw[I.tuple_inj hl hqy];exact hy⟩,⟨z'',?_,⟨u,u2,?_⟩,?_,?_⟩,λc hcm=>?_⟩
  .exact(sb.2 _ D.TIz).trans (hk _ _ D.TIz D.TITO D.TIi1 D.TIi2 hTI)
  .exact(sb.2 _ D.TOz).trans TO'
  .exact h1'.at λo q=>(sb.2 _ D.i1z).trans q
  .obtain⟨o2,e2,r2⟩:=h2';exact⟨o2,(sb.2 _ D.i2z).trans e2,r2⟩
  .have hlt:c<s.heap.objs.size:=by
    have e':c=z\/c=TI\/c=TO\/c=i1\/c=i2:=by simpa using hcm
    rcases e' with q|q|q|q|q
    .rw[q];exact hzl
    .rw[q];exact lt_size hTI
    .rw[q];exact lt_size hTO
    .rw[q];obtain⟨_,e1,_⟩:=h1;exact lt_size e1
    .rw[q];obtain⟨_,e2,_⟩:=h2;exact lt_size e2
   rw[ah (ne_of_lt hlt)];exact(hf c hcm).1
 done:=by intro X hP hw hK hc i pins s σ H E I hf st hg;subst hP hw hK;obtain⟨hz,hTI,⟨x0,y0,hTO⟩,h1,h2⟩:=st;obtain⟨xs,hqx,hend⟩:=hg;obtain⟨its,rv,p,_⟩:=I.list hqx;have l1:=rv.length;exact yx (kb:=i) (I.ok.hd hc) D hz hTI hTO h1 p.isList (by simp;omega) λh' hk=>⟨rfl,I.turnedL (t':=s.toks) (ch:=[z,TI,TO,i1,i2]) (λc o hb q=>hk c o (λq'=>hb (by simp[q'])) (λq'=>hb (by simp[q'])) (λq'=>hb (by simp[q'])) (λq'=>hb (by simp[q'])) q) hf⟩
 self:=λA i s Q E st h=>wpAny_pyIter_zip st.1 h
def DS (K:PySem.W.Frag)(ta:TA):TI:=λσ H R=>ta σ H λvs H1=>∃a b xs ys,vs=[.ref a,.ref b]/\aR K H1 a xs/\eB K H1 b ys/\R (CA K a b) H1
theorem IsTup.lt {h:Heap}{a:Addr}{its:Array Value}(x:IsTup h a its):a<h.objs.size:=by obtain⟨o,e,_⟩:=x;exact lt_size e
theorem CC {X:Cx}{e e2:Expr}{ta:TA}{p pos tpos:Pos}{elts:List Expr}{kk:Nat}(hg:Gl X "zip")(hm:X.mg "zip"=none)(ha:PA X [e,e2] ta)
  (hs:starEach [e,e2] X.env=(false,eval e X.env)::starEach [e2] X.env:=by rfl) (hpl:(backTo pos (starEach [e2] X.env)).any (·.1)=false:=by rfl) :
  PI X (.Tuple elts kk tpos) (.Call (.Name "zip" p) [e,e2] [] pos) (DS X.K ta):=by
 intro pins s σ H R I h;refine Call_ (iK I hg hm yn (PyProof.Rows.callWith_type1 (cx (ha pos pins s σ H _ I h) λus s1 ⟨vs,H1,I1,r1,q1⟩=>?_) hs hpl));obtain⟨a,b,xs,ys,ex,hqx,hqy,q⟩:=q1;subst ex;cases r1 with
 |cons r rr=>
  cases rr with
  |cons r' rr=>
   cases rr;cases r;cases r';obtain⟨its,rv,p1,_⟩:=I1.list hqx;obtain⟨its2,rv2,p2,_⟩:=I1.tuple hqy;have la:a<s1.heap.objs.size:=p1.lt;have lb:b<s1.heap.objs.size:=IsTup.lt p2;refine Ay p1.isList p2 λh' hz hTI hTO h1 h2 hsz hk=>wpAny_pyIter_zip hz ?_;have I2:aH X pins σ H1 { s1 with heap:=h' }:=I1.kept (t':=s1.toks) hk;refine⟨s1.heap.objs.size+4,[s1.heap.objs.size+4,s1.heap.objs.size+2,s1.heap.objs.size+3,s1.heap.objs.size,s1.heap.objs.size+1],_,_,H1,rfl,I2,yy (PySem.W.ktu_apart s1.heap.objs.size a b la lb),⟨hz,hTI,⟨_,_,hTO⟩,h1,h2⟩,λc hcm=>?_,q⟩;have e':c=s1.heap.objs.size+4\/c=s1.heap.objs.size+2\/c=s1.heap.objs.size+3\/c=s1.heap.objs.size\/c=s1.heap.objs.size+1:=by simpa using hcm
   have hle:s1.heap.objs.size<=c:=by
    rcases e' with z|z|z|z|z
    .rw[z];exact Nat.le_add_right _ _
    .rw[z];exact Nat.le_add_right _ _
    .rw[z];exact Nat.le_add_right _ _
    .rw[z];exact Nat.le_refl _
    .rw[z];exact Nat.le_add_right _ _
   exact I1.fpOk hle (I1.hok.fresh hle)
end L2
namespace PySem
open PySem.AutoSeq1 (wpAny_loadPart')
section
variable {prog:Program}{w:World}{A:Around}{E:Value->Shared->Prop}{s:Shared}
theorem sh (a v:Value):checkTypeCall "enumerate" ⟨[a],[(Str.ofString "start",v)]⟩=pure ():=by kernel_rfl
theorem ux (a v:Value):checkBuiltinCall "enumerate.__new__" ⟨[.type "enumerate",a],[(Str.ofString "start",v)]⟩=pure ():=by kernel_rfl
theorem sj (a b v:Value):argsOk "object.__init__" ⟨[a,b],[(Str.ofString "start",v)]⟩:=by
 unfold argsOk;rw[signature?_of (id := "object.__init__") (n:=['_','_','t','i','n','i','_','_']) (o:=['t','c','e','j','b','o']) (by kernel_rfl) F.owner_object]
 kernel_rfl
theorem Az {T newId:String}{self:Value}{rest:List Value}{kw:List (Str×Value)}(hne0:rest≠[])(obL:typeLookup (.type T) "__init__"=pure (some (.builtin "object.__init__")))(hm:Bind.madeBy (.type T)=pure (some newId))(hne:(some newId != some "object.__new__")=true) :
  Meets (Builtin.«object.__init__» ⟨self::rest,kw⟩) (λ_ R s=>s.TypeIs self T/\R (.ok (.ret .none)) s):=by
 refine Meets.of_wp λprog w A R s hs=>?_;obtain⟨hT,hq⟩:=hs;cases rest with
 |nil=>exact absurd rfl hne0
 |cons a rest=>
  repeat (any_goals (first|assumption|wp_step))
  exact⟨_,rfl,hq⟩
theorem CD (ll:Addr)(its:Array Value)(n:Nat)(dct:Option Addr)(sl:Array (Option Value))(t:Tok) :
  Meets (Builtin.«enumerate.__new__» ⟨[.type "enumerate",.ref ll],[(Str.ofString "start",.int 1 t)]⟩) (λ_ R s=>s.heap.get? ll=some { cls:=.type "list",dict:=dct,data:=.seq its n,slots:=sl }/\ R (.ok (.ret (.ref (s.heap.push { cls:=.type "list_iterator",data:=.fields #[.ref ll,.int 0 0] }).objs.size))) { s with heap:=(s.heap.push { cls:=.type "list_iterator",data:=.fields #[.ref ll,.int 0 0] }).push { cls:=.type "enumerate",data:=.fields #[.none,.bool false,.ref s.heap.objs.size,rawInt 1,.none,.none] } }):=
 .of_wp λprog w A R s h=>by
  obtain⟨hp,gs,dr,tk,os⟩:=s;obtain⟨obL,h⟩:=h;have hsub:=sub_enumerate;have isL:Heap.IsList (Shared.heap ⟨hp,gs,dr,tk,os⟩) ll its:=⟨_,obL,rfl,n,rfl⟩
  wp_walk using wpAny_loadPart' obL
  refine wpAny_stack_any λst=>wpAny_pure ?_;split
  .rename_i c _ _ _ _ _;cases (c==Value.type "enumerate")
   .wp_walk using wpAny_loadPart' obL,wpAny_pyIter_list isL
    exact⟨_,rfl,h⟩
   .wp_walk using wpAny_loadPart' obL,wpAny_pyIter_list isL
    exact⟨_,rfl,h⟩
  .wp_walk using wpAny_loadPart' obL,wpAny_pyIter_list isL
   exact⟨_,rfl,h⟩
theorem AA {T newId initId:String}{Bn Bi:Builtin}{as:List Value}{kw:List (Str×Value)}{S:Spec}{Q Q1:Value->Shared->Prop}(ft:TypeCalled T newId initId)(ct:checkTypeCall T ⟨as,kw⟩=pure ())(cn:checkBuiltinCall newId ⟨.type T::as,kw⟩=pure ())
  (eN:entryFor table newId=some Bn) (eI:entryFor table initId=some Bi) (g:Meets (Bn ⟨.type T::as,kw⟩) S) (h:S A.in1 (wants Q1 E) s)
  (nx:∀ob s1,Q1 ob s1->s1.TypeIs ob T/\argsOk initId ⟨ob::as,kw⟩/\∃Si,Meets (Bi ⟨ob::as,kw⟩) Si/\Si A.in1 (wants (λr s2=>r = .none/\Q ob s2) E) s1):wpAny (model prog w) A (call (.type T) as kw) Q E s:=by
 obtain⟨c,tl,mro⟩:=ft.mro;have made:=ft.made;have sub:=ft.sub;refine wpAny_call (codeAny_of_tree (show wpAny _ _ (callAny (.type T) _) _ _ _ from wpAny_pure ⟨Code.quiet_builtin _ (by decide +kernel),codeAny_builtin F.entry_type_call ?_⟩));rw[Around.under_plain (weight_type_call_type T as kw) (units_type_call_type T as kw)];have n1:=ft.notType;have n2:=ft.canCreate
 repeat (any_goals (first|assumption|wp_step))
 refine codeAny_mono (codeAny_call_builtin ft.plain eN (wpAny_of_eq cn (g prog w A.in1 _ s h))) λr s1 hr=>?_;cases r with
 |error e=>exact hr
 |ok fl=>
  cases fl with
  |ret ob=>
   obtain⟨tO,ok,Si,gi,hsi⟩:=nx _ _ hr;have li:=ft.init.lookup;have bi:=ft.init.bind ob
   repeat (any_goals (first|assumption|wp_step))
   refine codeAny_mono (codeAny_call_builtin ft.init.plain eI (ft.init.check _ _ _ _ _ _ _ _ tO ok (gi prog w A.in1 _ s1 hsi))) λr2 s2 hr2=>?_;cases r2 with
   |error e=>exact hr2
   |ok f2=>
    cases f2 with
    |ret r=>
     obtain⟨rfl,hq⟩:=hr2
     repeat (any_goals (first|assumption|wp_step))
    |_=>exact hr2.elim
  |_=>exact hr.elim
theorem AB {ll:Addr}{its:Array Value}{t:Tok}{Q:Value->Shared->Prop}(isL:s.heap.IsList ll its)
  (h:∀g,IsEnum g (s.heap.objs.size+1) s.heap.objs.size 1 .none->g.IsListIter s.heap.objs.size ll 0->g.objs.size=s.heap.objs.size+2->(∀b o,s.heap.get? b=some o->g.get? b=some o)->Q (.ref (s.heap.objs.size+1)) { s with heap:=g }) :
  wpAny (model prog w) A (call (.type "enumerate") [.ref ll] [(Str.ofString "start",.int 1 t)]) Q E s:=by
 obtain⟨⟨c,dc,da,sl⟩,hl,hc,n,hd⟩:=isL;replace hc:c = .type "list":=hc;replace hd:da = .seq its n:=hd;subst hc hd;refine AA (Q1:=λob s1=>s1.TypeIs ob "enumerate"/\Q ob s1) F.called_enumerate (sh _ _) (ux _ _) F.entry_enumerate_new F.entry_object_init (CD ll its n dc sl t) ⟨hl,?_⟩
  (λob s1 hq=>⟨hq.1,sj _ _ _,_,Az (T := "enumerate") (by simp) F.called_enumerate.init.lookup F.called_enumerate.made (by decide),hq.1,rfl,hq.2⟩)
 have sz:(s.heap.push { cls:=.type "list_iterator",data:=.fields #[.ref ll,.int 0 0] }).objs.size=s.heap.objs.size+1:=size_push ..;show _/\_;rw[sz];have he:IsEnum ((s.heap.push { cls:=.type "list_iterator",data:=.fields #[.ref ll,.int 0 0] }).push { cls:=.type "enumerate",data:=.fields #[.none,.bool false,.ref s.heap.objs.size,rawInt 1,.none,.none] }) (s.heap.objs.size+1) s.heap.objs.size 1 .none:=by have z:=get?_push_size (s.heap.push { cls:=.type "list_iterator",data:=.fields #[.ref ll,.int 0 0] }) (o:={ cls:=.type "enumerate",data:=.fields #[.none,.bool false,.ref s.heap.objs.size,rawInt 1,.none,.none] }) rfl;rw[sz]at z;exact z
 exact⟨⟨_,he,rfl⟩,h _ he ⟨_,get?_push_of_some _ (get?_push_size _ rfl),rfl,rfl⟩ (by rw[size_push,sz]) λb o x=>get?_push_of_some _ (get?_push_of_some _ x)⟩
end
section
variable {prog:Program}{w:World}{A:Around}{E:Value->Shared->Prop}{s:Shared}
theorem AC {en li ll:Addr}{i:Nat}{n:Int}{its:Array Value}{x old:Value}{Q:Value->Shared->Prop}(hE:IsEnum s.heap en li n old)(hI:s.heap.IsListIter li ll i)(hL:s.heap.IsList ll its)(hx:its[i]?=some x)(ne:en≠li)
  (k:∀g,IsEnumOut g en li (n+1) x s.heap.objs.size->g.IsListIter li ll (i+1)->g.get? s.heap.objs.size=some { cls:=.type "tuple",data:=.seq #[.int n s.toks,x] }->g.objs.size=s.heap.objs.size+1-> (∀b o,b≠en->b≠li->s.heap.get? b=some o->g.get? b=some o)->Q (.ref s.heap.objs.size) { s with heap:=g,toks:=s.toks+1 }) :
  wpAny (model prog w) A (Builtin.«enumerate.__next__» ⟨[.ref en],[]⟩) (λr s'=>∃v,r = .done (.ret v)/\Q v s') E s:=by
 obtain⟨hp,gs,dr,tk,os⟩:=s;show wpAny _ _ (field (.ref en) 2 >>= _) _ _ _;refine wpAny_bind (wpAny_field hE rfl (x:=.ref li) rfl ?_);refine wpAny_bind (wpAny_nextOf_list_item hI hL hx λg1 i1 b1=>?_);replace b1:SameBut li hp g1:=b1;have e1:IsEnum g1 en li n old:=(b1.2 en ne).trans hE;show wpAny _ _ (field (.ref en) 3 >>= _) _ _ ⟨g1,gs,dr,tk,os⟩;refine wpAny_bind (wpAny_field e1 rfl (x:=rawInt n) rfl ?_);show wpAny _ _ (field (.ref en) 4 >>= _) _ _ ⟨g1,gs,dr,tk,os⟩;refine wpAny_bind (wpAny_field e1 rfl (x:=.none) rfl ?_);show wpAny _ _ (mkInt n >>= _) _ _ ⟨g1,gs,dr,tk,os⟩;refine wpAny_bind (wpAny_mkInt ?_);show wpAny _ _ (setField (.ref en) 3 (rawInt (n+1)) >>= _) _ _ ⟨g1,gs,dr,tk+1,os⟩;refine wpAny_bind (wpAny_setField_rec e1 (by simp) λg2 e2 b2=>?_);replace b2:SameBut en g1 g2:=b2;replace e2:IsEnum g2 en li (n+1) old:=e2;show wpAny _ _ (setField (.ref en) 4 .none >>= _) _ _ ⟨g2,gs,dr,tk+1,os⟩;refine wpAny_bind (wpAny_setField_rec e2 (by simp) λg3 e3 b3=>?_);replace b3:SameBut en g2 g3:=b3;replace e3:IsEnum g3 en li (n+1) old:=e3;show wpAny _ _ (newTuple [.int n tk,x] >>= _) _ _ ⟨g3,gs,dr,tk+1,os⟩;refine wpAny_bind (wpAny_newTuple ?_);have e4:IsEnum (g3.push { cls:=.type "tuple",data:=.seq #[.int n tk,x] }) en li (n+1) old:=get?_push_of_some _ e3;generalize eq4:g3.push { cls:=.type "tuple",data:=.seq #[.int n tk,x] }=g4 at e4;have sz:g3.objs.size=hp.objs.size:=by rw[b3.1,b2.1,b1.1]
 have le:en<hp.objs.size:=lt_size hE;have t4:g4.get? hp.objs.size=some { cls:=.type "tuple",data:=.seq #[.int n tk,x] }:=by rw[<- eq4,<- sz];exact get?_push_size _ rfl
 have s4:g4.objs.size=hp.objs.size+1:=by rw[<- eq4,size_push,sz]
 have k4:∀b o,b≠en->b≠li->hp.get? b=some o->g4.get? b=some o:=λb o n1 n2 r=>by rw[<- eq4];exact get?_push_of_some _ (b3.extBut b o n1 (b2.extBut b o n1 (b1.extBut b o n2 r)))
 have i4:g4.IsListIter li ll (i+1):=by rw[<- eq4];obtain⟨o,ho,r⟩:=(i1.extBut b2.extBut (Ne.symm ne)).extBut b3.extBut (Ne.symm ne);exact⟨o,get?_push_of_some _ ho,r⟩
 show wpAny _ _ (Builtin.SmallTypes.ownedTupleIsFree (.ref en) >>= _) _ _ ⟨g4,gs,dr,tk+1,os⟩;rw[sz];clear eq4 e3 b3 e2 b2 e1 b1 i1 sz g3 g2 g1;refine wpAny_bind ?_;unfold Builtin.SmallTypes.ownedTupleIsFree;refine wpAny_bind (wpAny_field e4 rfl (x:=.none) rfl (wpAny_pure ?_));simp only[if_true];refine wpAny_bind (wpAny_rule ?_);refine wpAny_bind (wpAny_field e4 rfl (x:=old) rfl ?_);refine wpAny_bind (wpAny_setField_rec e4 (by simp) λg5 e5 b5=>?_);replace b5:SameBut en g4 g5:=b5;replace e5:IsEnum g5 en li (n+1) x:=e5;show wpAny _ _ (Builtin.SmallTypes.ownedTupleHandOut (.ref en) (.ref hp.objs.size) >>= _) _ _ ⟨g5,gs,dr,tk+1,os⟩;refine wpAny_bind ?_;unfold Builtin.SmallTypes.ownedTupleHandOut;refine wpAny_bind (wpAny_setField_rec e5 (by simp) λg6 e6 b6=>?_);replace b6:SameBut en g5 g6:=b6;replace e6:IsEnumOut g6 en li (n+1) x hp.objs.size:=e6;refine wpAny_setField_rec e6 (by simp) λg7 e7 b7=>?_;replace b7:SameBut en g6 g7:=b7;replace e7:IsEnumOut g7 en li (n+1) x hp.objs.size:=e7;refine wpAny_bind (wpAny_letGo (wpAny_pure ⟨_,rfl,k g7 e7 ?_ ?_ ?_ ?_⟩))
 .exact((i4.extBut b5.extBut (Ne.symm ne)).extBut b6.extBut (Ne.symm ne)).extBut b7.extBut (Ne.symm ne)
 .exact b7.extBut _ _ (ne_of_gt le) (b6.extBut _ _ (ne_of_gt le) (b5.extBut _ _ (ne_of_gt le) t4))
 .rw[b7.1,b6.1,b5.1,s4]
 .exact λb o n1 n2 r=>b7.extBut b o n1 (b6.extBut b o n1 (b5.extBut b o n1 (k4 b o n1 n2 r)))
theorem yz {en li ll:Addr}{i:Nat}{n:Int}{its:Array Value}{x old:Value}{Q:Option Value->Shared->Prop}(hE:IsEnum s.heap en li n old)(hI:s.heap.IsListIter li ll i)(hL:s.heap.IsList ll its)(hx:its[i]?=some x)(ne:en≠li)
  (k:∀g,IsEnumOut g en li (n+1) x s.heap.objs.size->g.IsListIter li ll (i+1)->g.get? s.heap.objs.size=some { cls:=.type "tuple",data:=.seq #[.int n s.toks,x] }->g.objs.size=s.heap.objs.size+1-> (∀b o,b≠en->b≠li->s.heap.get? b=some o->g.get? b=some o)->Q (some (.ref s.heap.objs.size)) { s with heap:=g,toks:=s.toks+1 }):wpAny (model prog w) A (pyNext (.ref en)) Q E s:=by
 have ty:s.TypeIs (.ref en) "enumerate":=⟨_,hE,rfl⟩
 unfold pyNext;exact wpAny_bind (wpAny_attempt (wpAny_callSpecial?_slot (name:=Str.ofString "__next__") ty F.slot_enumerate_next (wpAny_call_entry F.slot_enumerate_next ty F.entry_enumerate_next (AC hE hI hL hx ne λg r1 r2 r3 r4 r5=>wpAny_pure (k g r1 r2 r3 r4 r5)) (F.args_enumerate_next_1 _))))
theorem yA {en li ll:Addr}{i:Nat}{n:Int}{its:Array Value}{old:Value}{Q:Option Value->Shared->Prop}(hh:A.handled=none)(hE:IsEnum s.heap en li n old)(hI:s.heap.IsListIter li ll i)(hL:s.heap.IsList ll its)(hx:its[i]?=none)
  (k:∀g,Heap.ExtBut li s.heap g->Q none { s with heap:=g }):wpAny (model prog w) A (pyNext (.ref en)) Q E s:=by
 have ty:s.TypeIs (.ref en) "enumerate":=⟨_,hE,rfl⟩
 unfold pyNext;refine wpAny_bind (wpAny_attempt (wpAny_callSpecial?_slot (name:=Str.ofString "__next__") ty F.slot_enumerate_next (wpAny_call_entry F.slot_enumerate_next ty F.entry_enumerate_next ?_ (F.args_enumerate_next_1 _))));show wpAny _ _ (field (.ref en) 2 >>= _) _ _ _;refine wpAny_bind (wpAny_field hE rfl (x:=.ref li) rfl ?_);refine wpAny_bind (wpAny_nextOf_list_end hh hI hL hx λg v r1 r2=>?_);obtain⟨o,o1,o2⟩:=r2;refine wpAny_bind (wpAny_isInstance (T := "StopIteration") (b:=true) ⟨o,o1,o2⟩ isSubtype_stop ?_);exact wpAny_pure (k _ r1)
end
end PySem
namespace L2
open PyProof.Rows
def CF (K:PySem.W.Frag)(a:Addr):It:=⟨λi H=>∃(xs:List V) (x:V),aR K H a xs/\xs[i]?=some x,λi H v H'=>∃T x,v = .ref T/\H T=none/\H'=upd H T (.tup [.int ((i:Int)+1),x])/\∀xs,aR K H a xs->xs[i]?=some x,λi H=>∃xs:List V,aR K H a xs/\xs.length<=i⟩
theorem vR {P:Program}{w:World}{K:PySem.W.Frag}{elts:List Expr}{kk:Nat}{tpos:Pos}(a e it:Addr) :
  nv P w K (.Tuple elts kk tpos) (CF K a) [e,it] e (λi h=>(∃old,IsEnum h e it ((i:Int)+1) old)/\h.IsListIter it a i/\e≠it) where
 mem:=by simp
 obj:=λi h st b hb=>by
  obtain⟨⟨old,he⟩,⟨o,ho,hc,hd⟩,_⟩:=st;have e':b=e\/b=it:=by simpa using hb
  rcases e' with z|z
  .rw[z];exact⟨_,he,λv q=>nomatch q⟩
  .rw[z];exact⟨o,ho,λv q=>by rw[hd]at q;cases q⟩
 keep:=λi h h' st k=>let ⟨⟨old,he⟩,hi,hne⟩:=st;⟨⟨old,k e (by simp) _ he⟩,hi.at λo q=>k it (by simp) o q,hne⟩
 item:=by
  intro X hP hw hK hc i pins s σ H E I hf st hg;subst hP hw hK;obtain⟨⟨old,he⟩,hit,hne⟩:=st;obtain⟨xs,x,hq,hx⟩:=hg;obtain⟨its,rv,p,hz⟩:=I.list hq;obtain⟨u,hu,ru⟩:=rv.get hx;have hel:e<s.heap.objs.size:=lt_size he;have hil:it<s.heap.objs.size:=by obtain⟨_,q,_⟩:=hit;exact lt_size q
  refine yz he hit p.isList (x:=u) (by simpa using hu) hne λh' ho hit' hT hsz hk=>?_;refine⟨_,rfl,wpAny_letOwnedTupleGo_enum (s:={ s with heap:=h',toks:=s.toks+1 }) ho λh'' he' sb=>?_⟩;have hT2:h''.get? s.heap.objs.size=some { cls:=.type "tuple",data:=.seq #[.int ((i:Int)+1) s.toks,u] }:=(sb.2 _ (ne_of_gt hel)).trans hT;have new:cX X.prog X.w (upd H s.heap.objs.size (.tup [.int ((i:Int)+1),x])) h'' s.heap.objs.size (.tup [.int ((i:Int)+1),x]):=⟨by show 2<=sizeLine;decide,[.int ((i:Int)+1) s.toks,u],.cons ⟨_,rfl⟩ (.cons ru .nil),⟨_,hT2,rfl,_,rfl⟩⟩
  have I1:aH X pins σ (upd H s.heap.objs.size (.tup [.int ((i:Int)+1),x])) { s with heap:=h'',toks:=s.toks+1 }:=I.turnedNew (ch:=[e,it]) (λb ob hb q=>(sb.2 b (λz=>hb (by simp[z]))).trans (hk b ob (λz=>hb (by simp[z])) (λz=>hb (by simp[z])) q)) hf (Nat.le_refl _) new;refine⟨.ref s.heap.objs.size,_,I1,rfl,⟨_,x,rfl,I.hok.fresh (Nat.le_refl _),rfl,λys hy=>by rw[I.list_inj hy hq];exact hx⟩,⟨⟨u,?_⟩,hit'.at λo q=>(sb.2 it (Ne.symm hne)).trans q,hne⟩,λb hb=>?_⟩
  .have e1:((i+1:Nat):Int)+1=(i:Int)+1+1:=by omega
   rw[e1];exact he'
  .have hb':b<s.heap.objs.size:=by
    have e':b=e\/b=it:=by simpa using hb
    rcases e' with z|z
    .rw[z];exact hel
    .rw[z];exact hil
   rw[ah (ne_of_lt hb')];exact(hf b hb).1
 done:=by intro X hP hw hK hc i pins s σ H E I hf st hg;subst hP hw hK;obtain⟨⟨old,he⟩,hit,hne⟩:=st;obtain⟨xs,hq,hx⟩:=hg;obtain⟨its,rv,p,hz⟩:=I.list hq;obtain⟨f0,f1,f2,f3,f4,f5⟩:=hf it (by simp);have hl:=rv.length;exact yA (I.ok.hd hc) he hit p.isList (by simp;omega) λh' eb=>⟨rfl,I.turned (t':=s.toks) (λb o hb q=>eb b o hb q) f0 f1 f3 f4 f5⟩
 self:=λA i s Q E st h=>let ⟨⟨_,he⟩,_⟩:=st;wpAny_pyIter_enum he h
section
variable {M:Model}{A:Around}{E:Value->Shared->Prop}{s:Shared}
theorem oV {pos:Pos}{T:String}{args:List (Bool×Sem Value)}{kws:List (Option Str×Sem Value)}{Q:Value->Shared->Prop}(hp:(args.any (·.1)||kws.any (·.1.isNone))=false)
  (h:wpAny M A (evalArgs (.type T) true args kws) (λa s₁=>wpAny M A (call (.type T) a.pos a.kw) Q E s₁) E s):wpAny M A (callWith pos (.type T) [] args kws) Q E s:=by
 unfold callWith;refine wpAny_bind (wpAny_holding (wpAny_mono h (λa s1 h1=>wpAny_bind (wpAny_standAt ?_)) λ_ _ x=>x));simp only[hp];refine wpAny_bind (wpAny_pure ?_);exact wpAny_bind (wpAny_mono h1 (λr s2 hr=>wpAny_bind (wpAny_holding (wpAny_point (wpAny_pure hr)))) λ_ _ x=>x)
end
def AD (K:PySem.W.Frag)(ta:TA):TI:=λσ H R=>ta σ H λvs H1=>∃a xs,vs=[.ref a]/\aR K H1 a xs/\R (CF K a) H1
theorem AE {X:Cx}{e:Expr}{ta:TA}{p pos tpos kp cp:Pos}{elts:List Expr}{kk j:Nat}(hg:Gl X "enumerate")(hm:X.mg "enumerate"=none)(ha:PA X [e] ta)(hs:starEach [e] X.env=[(false,eval e X.env)]:=by rfl) :
  PI X (.Tuple elts kk tpos) (.Call (.Name "enumerate" p) [e] [⟨some "start",.Constant (.int 1) j cp,kp⟩] pos) (AD X.K ta):=by
 intro pins s σ H R I h;refine wpAny_Call_Name_kw (iK I hg hm boot_enumerate (oV (by rw[hs];rfl) ?_));rw[hs];have hA:=ha pos pins s σ H _ I h;rw[hs]at hA;refine evalArgs_kw rfl (cx hA λus s1 ⟨vs,H1,I1,r1,q1⟩=>?_);obtain⟨a,xs,ex,hq,q⟩:=q1;subst ex;cases r1 with
 |cons r rr=>
  cases rr;cases r;refine kws_cons (wpAny_Constant_int (kws_nil ?_));have I1':aH X pins σ H1 { s1 with toks:=s1.toks+1 }:=I1.tok _;obtain⟨its,rv,p',hz⟩:=I1'.list hq;show wpAny _ _ (call (.type "enumerate") [.ref a] [(Str.ofString "start",.int 1 s1.toks)]) _ _ _;refine AB p'.isList λh' he hit hsz hk=>wpAny_pyIter_enum he ?_;have I2:aH X pins σ H1 { s1 with heap:=h',toks:=s1.toks+1 }:=I1'.kept (t':=s1.toks+1) hk;refine⟨s1.heap.objs.size+1,[s1.heap.objs.size+1,s1.heap.objs.size],_,_,H1,rfl,I2,vR a (s1.heap.objs.size+1) s1.heap.objs.size,⟨⟨.none,he⟩,hit,Nat.succ_ne_self _⟩,λb hb=>?_,q⟩;have e':b=s1.heap.objs.size+1\/b=s1.heap.objs.size:=by simpa using hb
  have hle:s1.heap.objs.size<=b:=by
   rcases e' with z|z
   .rw[z];exact Nat.le_add_right _ _
   .rw[z];exact Nat.le_refl _
  exact I1.fpOk hle (I1.hok.fresh hle)
theorem xr {K:PySem.W.Frag}{ta:TA}{σ:St}{H:Hp}{R:It->Hp->Prop}(h:ta σ H λvs H1=>∃a b xs ys,vs=[.ref a,.ref b]/\aR K H1 a xs/\eB K H1 b ys/\R (CA K a b) H1):DS K ta σ H R:=h
theorem uy {K:PySem.W.Frag}{ta:TA}{σ:St}{H:Hp}{R:It->Hp->Prop}(h:ta σ H λvs H1=>∃a xs,vs=[.ref a]/\aR K H1 a xs/\R (CF K a) H1):AD K ta σ H R:=h
end L2
local macro_rules | `(tactic| walk_at "s") => `(tactic| exact L2.G7 rfl rfl rfl rfl (by decide +kernel))
namespace Pc
open L2
def cZ (i:Nat):Stmt:=PySem.Challenge.pw_postclear_s01_answers.main.body.getD i (.Pass ⟨0,0,0,0⟩)
abbrev dU:Stmt:=bF (cZ 7) 0
theorem lq:ap ["self","kilogram","piece","mile"] ["self","kilogram","piece","mile"] (ak dU):=by walk_at"s"
abbrev cN:Stmt:=bF (cZ 8) 0
theorem jm:ap ["self","sender","receiver","day","full"] ["self","sender","receiver","day","full"] (ak cN):=by walk_at"s"
abbrev cO:Stmt:=bF (cZ 8) 1
theorem jn:ap ["self","figure"] ["self","figure"] (ak cO):=by walk_at"s"
abbrev cF:Stmt:=bF (cZ 8) 2
theorem gt:ap ["self","day","other"] ["self","day","other"] (ak cF):=by walk_at"s"
abbrev cC:Stmt:=bF (cZ 8) 3
theorem iO:ap ["self","other"] ["self","other"] (ak cC):=by walk_at"s"
abbrev cG:Stmt:=bF (cZ 8) 4
theorem gu:ap ["self","today"] ["self","today"] (ak cG):=by walk_at"s"
abbrev ee:Stmt:=bF (cZ 9) 0
theorem kf:ap ["self","payer","payee","amount"] ["self","payer","payee","amount"] (ak ee):=by walk_at"s"
abbrev gP:Stmt:=cZ 10
theorem kI:ap ["positions","giver","taker","amount"] ["positions","giver","taker","amount"] (ak gP):=by walk_at"s"
abbrev fL:Stmt:=bF (cZ 11) 0
theorem mm:ap ["self"] ["self"] (ak fL):=by walk_at"s"
abbrev gQ:Stmt:=bF (cZ 11) 1
theorem ej:ap ["self","houses","house"] ["self","houses"] (ak gQ):=by walk_at"s"
abbrev ir:Stmt:=bF (cZ 11) 2
theorem lu:ap ["self","house"] ["self","house"] (ak ir):=by walk_at"s"
abbrev gR:Stmt:=bF (cZ 11) 3
theorem kJ:ap ["self","house","rates"] ["self","house","rates"] (ak gR):=by walk_at"s"
abbrev i7:Stmt:=bF (cZ 11) 4
theorem mn:ap ["self","house"] ["self","house"] (ak i7):=by walk_at"s"
abbrev eF:Stmt:=bF (cZ 11) 5
theorem iu:ap ["self","money","rate"] ["self","money","rate"] (ak eF):=by walk_at"s"
abbrev iw:Stmt:=bF (cZ 11) 6
theorem gT:ap ["self","days","statement"] ["self","days"] (ak iw):=by walk_at"s"
abbrev e8:Stmt:=bF (cZ 11) 7
theorem iP:ap ["self","sender","receiver","full"] ["self","sender","receiver","full"] (ak e8):=by walk_at"s"
abbrev e9:Stmt:=bF (cZ 11) 8
theorem iQ:ap ["self","number"] ["self","number"] (ak e9):=by walk_at"s"
abbrev d7:Stmt:=bF (cZ 11) 9
theorem cH:ap ["self","statement"] ["self"] (ak d7):=by walk_at"s"
abbrev fT:Stmt:=bF (cZ 11) 10
theorem jC:ap ["self","payment"] ["self","payment"] (ak fT):=by walk_at"s"
abbrev jD:Stmt:=bF (cZ 11) 11
theorem cJ:ap ["self","house","other","debt","statement","payment"] ["self","house","other"] (ak jD):=by walk_at"s"
abbrev ez:Stmt:=bF (cZ 11) 12
theorem bK:ap ["self","positions","house","statement","payment"] ["self"] (ak ez):=by walk_at"s"
abbrev cV:Stmt:=bF (cZ 13) 0
theorem jE:ap ["self","calls"] ["self","calls"] (ak cV):=by walk_at"s"
abbrev eG:Stmt:=bF (cZ 13) 1
theorem kK:ap ["self"] ["self"] (ak eG):=by walk_at"s"
abbrev bP:Stmt:=bF (cZ 13) 2
theorem eA:ap ["self","number"] ["self"] (ak bP):=by walk_at"s"
abbrev cW:Stmt:=bF (cZ 13) 3
theorem dJ:ap ["self","length","row"] ["self"] (ak cW):=by walk_at"s"
abbrev cI:Stmt:=bF (cZ 13) 4
theorem bQ:ap ["self","numbers","rows","turn","arguments"] ["self","numbers","rows"] (ak cI):=by walk_at"s"
abbrev ic:Stmt:=cZ 17
theorem cz:ap ["entries","rates","moneys","above","below","entry","worth"] ["entries","rates","moneys"] (ak ic):=by walk_at"s"
abbrev iR:Stmt:=cZ 18
theorem uz:ap ["entry","rates","moneys"] ["entry","rates","moneys"] (ak iR):=by walk_at"s"
abbrev sk:Stmt:=cZ 19
theorem jY:ap ["numbers","rates","grams","sample_grams","sample_pieces","by_weight","by_piece"] ["numbers","rates"] (ak sk):=by walk_at"s"
abbrev jZ:Stmt:=cZ 20
theorem kL:ap ["numbers","rates","miles","grams"] ["numbers","rates"] (ak jZ):=by walk_at"s"
abbrev lw:Stmt:=cZ 21
theorem mq:ap ["numbers","moneys","money","amount"] ["numbers","moneys"] (ak lw):=by walk_at"s"
abbrev i8:Stmt:=cZ 23
theorem fj:ap ["positions","plan","group"] ["positions"] (ak i8):=by walk_at"s"
abbrev gU:Stmt:=cZ 24
theorem aX:ap ["group","positions","left","payments","house","payer","payee","amount"] ["group","positions"] (ak gU):=by walk_at"s"
abbrev gv:Stmt:=cZ 25
theorem aZ:ap ["positions","house","houses","sums","most","groups","left","choice"] ["positions"] (ak gv):=by walk_at"s"
abbrev gW:Stmt:=cZ 26
theorem b9:ap ["amounts","sums","amount","total"] ["amounts"] (ak gW):=by walk_at"s"
abbrev kr:Stmt:=cZ 27
theorem c6:ap ["sums","most","choice","rest","groups"] ["sums"] (ak kr):=by walk_at"s"
abbrev fc:Stmt:=cZ 28
theorem ck:ap ["choice","choices","bit"] ["choice"] (ak fc):=by walk_at"s"
abbrev jF:Stmt:=cZ 29
theorem cK:ap ["left","houses","sums","most","least","found","choice","within","one"] ["left","houses","sums","most"] (ak jF):=by walk_at"s"
abbrev AF:Stmt:=cZ 30
theorem xu:ap ["choice","houses","group"] ["choice","houses"] (ak AF):=by walk_at"s"
abbrev qK:Stmt:=cZ 31
theorem gw:ap ["choice","houses","chosen","bit","house"] ["choice","houses"] (ak qK):=by walk_at"s"
abbrev c7:Stmt:=bF (cZ 43) 0
theorem lx:ap ["self","name","numbers"] ["self","name","numbers"] (ak c7):=by walk_at"s"
abbrev cA:Stmt:=bF (cZ 44) 0
theorem kh:ap ["self"] ["self"] (ak cA):=by walk_at"s"
abbrev jG:Stmt:=cZ 45
theorem eJ:ap ["text","reading","lines","place","line"] ["text"] (ak jG):=by walk_at"s"
abbrev qL:Stmt:=cZ 46
theorem iS:ap ["reading","lines","entry"] ["reading"] (ak qL):=by walk_at"s"
abbrev qM:Stmt:=cZ 47
theorem kM:ap ["name","numbers","number"] ["name","numbers"] (ak qM):=by walk_at"s"
abbrev gX:Stmt:=cZ 48
theorem sr:ap ["reading","place","words"] ["reading","place","words"] (ak gX):=by walk_at"s"
abbrev eK:Stmt:=cZ 49
theorem i9:ap ["name","words","numbers"] ["name","words"] (ak eK):=by walk_at"s"
abbrev fY:Stmt:=cZ 50
theorem ie:ap ["reading","words","name","numbers"] ["reading","words"] (ak fY):=by walk_at"s"
abbrev cw:Stmt:=cZ 51
theorem cP:ap ["name","words","bounds","numbers","word","bound","number"] ["name","words","bounds"] (ak cw):=by walk_at"s"
abbrev gY:Stmt:=cZ 52
theorem fZ:ap ["word","number","sign"] ["word"] (ak gY):=by walk_at"s"
abbrev iT:Stmt:=cZ 53
theorem jH:ap ["line","word"] ["line"] (ak iT):=by walk_at"s"
abbrev du:Stmt:=cZ 54
theorem c8:ap ["numbers","mark","parts","part","number"] ["numbers","mark"] (ak du):=by walk_at"s"
abbrev iU:Stmt:=cZ 55
theorem jI:ap ["signs","sign"] ["signs"] (ak iU):=by walk_at"s"
abbrev ly:Stmt:=cZ 80
theorem uA:ap ["book","arguments","houses"] ["book","arguments"] (ak ly):=by walk_at"s"
abbrev mT:Stmt:=cZ 81
theorem gc:ap ["book","arguments","house","rates","rate"] ["book","arguments"] (ak mT):=by walk_at"s"
abbrev mU:Stmt:=cZ 82
theorem iV:ap ["book","arguments","money","rate"] ["book","arguments"] (ak mU):=by walk_at"s"
abbrev lA:Stmt:=cZ 83
theorem kt:ap ["book","arguments","days"] ["book","arguments"] (ak lA):=by walk_at"s"
abbrev AG:Stmt:=cZ 84
theorem lB:ap ["book","arguments","reading","refusal","full","number"] ["book","arguments"] (ak AG):=by walk_at"s"
abbrev gx:Stmt:=cZ 85
theorem fU:ap ["book","entries","entry"] ["book","entries"] (ak gx):=by walk_at"s"
abbrev uB:Stmt:=cZ 86
theorem yB:ap ["book","arguments"] ["book","arguments"] (ak uB):=by walk_at"s"
abbrev qN:Stmt:=cZ 87
theorem gy:ap ["book","arguments","number","other","refusal","statement"] ["book","arguments"] (ak qN):=by walk_at"s"
abbrev iy:Stmt:=cZ 88
theorem eO:ap ["book","arguments","refusal","statement"] ["book","arguments"] (ak iy):=by walk_at"s"
abbrev ja:Stmt:=cZ 89
theorem mr:ap ["book","arguments"] ["book","arguments"] (ak ja):=by walk_at"s"
abbrev iz:Stmt:=cZ 90
theorem dB:ap ["book","arguments","refusal","statement","row"] ["book","arguments"] (ak iz):=by walk_at"s"
abbrev mV:Stmt:=cZ 91
theorem iW:ap ["book","arguments","house","other"] ["book","arguments"] (ak mV):=by walk_at"s"
abbrev jb:Stmt:=cZ 92
theorem fk:ap ["book","arguments","house","positions"] ["book","arguments"] (ak jb):=by walk_at"s"
abbrev mW:Stmt:=cZ 93
theorem lC:ap ["book","arguments","plan"] ["book","arguments"] (ak mW):=by walk_at"s"
abbrev DT:Stmt:=cZ 94
theorem AH:ap ["book","arguments","payment"] ["book","arguments"] (ak DT):=by walk_at"s"
abbrev uC:Stmt:=cZ 95
theorem mt:ap ["book","arguments","plan","payment"] ["book","arguments"] (ak uC):=by walk_at"s"
abbrev xv:Stmt:=cZ 96
theorem eQ:ap ["book","arguments","row","place","payments","positions","payment","house","still_open","settled"] ["book","arguments"] (ak xv):=by walk_at"s"
abbrev jc:Stmt:=cZ 97
theorem mw:ap ["book","payment"] ["book","payment"] (ak jc):=by walk_at"s"
abbrev oW:Stmt:=cZ 98
theorem jJ:ap ["book","arguments","reading","refusal"] ["book","arguments"] (ak oW):=by walk_at"s"
abbrev jd:Stmt:=cZ 99
theorem c9:ap ["book","arguments","first","payments","answer","payment"] ["book","arguments"] (ak jd):=by walk_at"s"
abbrev ku:Stmt:=cZ 100
theorem cB:ap ["book","arguments","positions","groups","answer","group","row","house"] ["book","arguments"] (ak ku):=by walk_at"s"
abbrev kx:Stmt:=cZ 101
theorem jK:ap ["book","arguments","row"] ["book","arguments"] (ak kx):=by walk_at"s"
abbrev uD:Stmt:=cZ 102
theorem yC:ap ["numbers"] ["numbers"] (ak uD):=by walk_at"s"
abbrev mX:Stmt:=cZ 103
theorem iX:ap ["payments","numbers","payment"] ["payments"] (ak mX):=by walk_at"s"
abbrev uE:Stmt:=cZ 104
theorem mx:ap ["payments","payment"] ["payments"] (ak uE):=by walk_at"s"
abbrev gZ:Stmt:=cZ 105
theorem kN:ap ["text","reading"] ["text","reading"] (ak gZ):=by walk_at"s"
abbrev je:Stmt:=cZ 106
theorem fo:ap ["book","number","state","refusal","statement"] ["book","number","state"] (ak je):=by walk_at"s"
abbrev dX:Stmt:=cZ 107
theorem dL:ap ["book","number","state","refusal"] ["book","number","state"] (ak dX):=by walk_at"s"
abbrev dM:Stmt:=cZ 108
theorem gd:ap ["book","number"] ["book","number"] (ak dM):=by walk_at"s"
abbrev qO:Stmt:=cZ 110
theorem dN:ap ["calls","book","reader","told","call","arguments","handler","answer"] ["calls"] (ak qO):=by walk_at"s"
end Pc
local macro_rules | `(tactic| walk_at "at") => `(tactic| first | assumption | exact L2.ac | (refine (L2.ah ?_).trans ?_ <;> first | assumption | exact L2.ac | (apply Ne.symm; assumption)))
local macro_rules | `(tactic| walk_at "sq") => `(tactic| first | assumption | exact L2.aR.of (by walk_at "at"))
local macro_rules | `(tactic| walk_at "rd") => `(tactic| repeat (with_reducible first | refine L2.DC rfl ?_ | refine L2.xn ?_ | refine L2.sf ?_ | refine L2.GT ?_ | refine L2.qI ?_ | refine L2.Fx ?_ | refine L2.DB ?_ | refine L2.FA ?_ | refine L2.qJ ?_ | refine L2.DK ?_ | refine L2.DJ ?_ | refine L2.Fy ?_ | refine L2.Ai ?_ | refine L2.Ew ?_ | refine L2.GU ?_ | refine L2.r9 ?_ | refine L2.FE ?_ | refine L2.Ag ?_ | refine L2.nU ?_ | refine L2.Cr ?_ | refine L2.DD ?_ | refine L2.DE ?_ | refine L2.DF ?_ | refine L2.FB ?_ | refine L2.DG ?_ | refine L2.DH ?_ | refine L2.Fz ?_ | refine L2.Aj ?_ | refine L2.DI ?_ | refine L2.xl ?_ | refine L2.DP ?_ | refine L2.FH ?_ | refine L2.FI ?_ | refine L2.FJ ?_ | refine L2.FK ?_ | refine L2.FL ?_ | refine L2.Ak ?_ | refine L2.DL ?_ | refine L2.FC ?_ | refine L2.FF ?_ | refine L2.xp ?_ | refine L2.xq ?_ | refine L2.DQ ?_ | refine L2.Au ?_ | refine L2.xr ?_ | refine L2.uy ?_ | refine L2.FG ?_ | refine L2.uw ?_ | refine L2.Ar ?_ | refine L2.DO ?_ | refine L2.Ao ?_ | refine L2.DN ?_ | refine L2.Ap ?_ | refine L2.DM ?_ | refine L2.xo ?_ | refine L2.An ?_ | refine L2.rZ ?_ | refine L2.jz ?_ | refine L2.DR ?_ | refine L2.Av ?_ | refine L2.Al (by walk_at "sq") ?_ | refine ⟨_, _, rfl, Or.inl (by walk_at "sq"), ?_⟩))
local macro_rules | `(tactic| walk_at "prep") => `(tactic| try dsimp only [L2.G8, L2.G9, L2.Hd, L2.He, L2.Hf])
variable {P:Program}{w:World}{K:PySem.W.Frag}{mg:Str->Option Value}{base:Heap}
namespace Pc
open L2
def bu (a:Option Int)(c:Int):Option Int:=match a with
 |none=>none
 |some n=>if c<48 then none else if 57<c then none else some (n*10+c-48)
def dO (w:List Int):Option Int:=if 9<w.length then none else if w.head?=some 48/\1<w.length then none else w.foldl bu (some 0)
def Ex:Option Int->V
 |none=>.non
 |some n=>.int n
theorem j0:∀l:List Int,l.foldl bu none=none
 |[]=>rfl
 |_::l=>j0 l
inductive DU (K:PySem.W.Frag)(vs:List V)(H:Hp)(Q:VK)(E:XK):Prop
 |mk (a:Addr)(ws:List Int)(_:vs=[.ref a])(_:aR K H a (ws.map V.int))(_:ws≠[])(_:Q (Ex (dO ws)) H)
structure TN (mg:Str->Option Value):Prop where
 n_len:mg "len"=none
 g_MOST_DIGITS:∃t,mg "MOST_DIGITS"=some (.int 9 t)
 g_DIGIT_0:∃t,mg "DIGIT_0"=some (.int 48 t)
 g_DIGIT_9:∃t,mg "DIGIT_9"=some (.int 57 t)
theorem su {f:Addr}{fd:FuncData}(F:fX K "number_of" "number_of" gY f fd)(T:TN mg):aG P w K mg base bO 1 f fd ["word"] (DU K):=by
 refine F.ok fZ (λvs H Q E h=>?_) (λcdv A outer s H vs Q E hr h=>?_)
 .obtain⟨a,ws,rfl,_⟩:=h
  rfl
 .obtain⟨a,ws,rfl,hs,hne,k⟩:=h;refine⟨_,(ae (bg (PW.pt (tN (ay fP (aI ax (by rfl) T.n_len boot_len (ab (pv 0) af)) (aS T.g_MOST_DIGITS) (aB _)) (rL (PW.pt (eC (ay dH (bf aJ (pv 0) al (λ_ _=>rfl)) (aS T.g_DIGIT_0) (aB _)) (dQ (ay fP (aI ax (by rfl) T.n_len boot_len (ab (pv 0) af)) al (aB _)))))))) (ai (ao kG)) aE) (ae (aq (i:=1) fZ.nd rfl (Or.inl rfl) al) (ae (ci PassesOwn.never rfl (bx (pv 0)) (aQ (i:=2) fZ.nd rfl (Or.inl rfl)) (ae (bg (PW.pt (tN (ay k7 (pv 2) (aS T.g_DIGIT_0) (aB _)) (rL (ay fP (pv 2) (aS T.g_DIGIT_9) (aB _))))) (ai (ao kG)) aE) (ai (aq (i:=1) fZ.nd rfl (Or.inl rfl) (aL d5 (aL cD (aL d6 (pv 1) al) (pv 2)) (aS T.g_DIGIT_0)))))) (ai (ao (pv 1)))))),?_⟩;walk_at"prep";obtain⟨c,r,rfl⟩:=List.exists_cons_of_ne_nil hne;have loop:∀D:jj,D.rt=Q->(9>=(c::r).length)->(dO (c::r)=(c::r).foldl bu (some 0))->
    (zC (vC (tC (V.int 0)) (km 1)) (zC (Ec (wQ K (fK 0)) (km 2) (zC (BU (Gf (oJ (vp (vq λi j=>V.bl (decide (i<j))) (fK 2) (tC (V.int 48)))) (oJ (vp (vq λi j=>V.bl (decide (j<i))) (fK 2) (tC (V.int 57))))) (x8 (tC V.non)) wO) (vC (vp (vq λi j=>V.int (i-j)) (vp (vq λi j=>V.int (i+j)) (vp (rI BY λi j=>V.int (i*j)) (fK 1) (tC (V.int 10))) (fK 2)) (tC (V.int 48))) (km 1)))) (x8 (fK 1)))) D [some (.ref a),none,none] H:=by
   intro D hD hlen hnum;walk_at"rd";refine⟨a,rfl,⟨_,hs⟩,?_⟩;refine bX (K:=K) (a:=a) (xs:=(c::r).map V.int) (λi σ H'=>H'=H/\∃n z,σ=[some (.ref a),some (.int n),z]/\((c::r).take i).foldl bu (some 0)=some n)
    ⟨rfl,0,none,rfl,rfl⟩ (λi σ H' _ ⟨e,_⟩=>by subst e;exact hs) ?_ ?_
   .rintro i y σ H' hi ⟨rfl,n,z,rfl,hn⟩;obtain⟨d,hd,rfl⟩:=bb hi;have step:((c::r).take (i+1)).foldl bu (some 0)=bu (some n) d:=by rw[aT hd,foldl_append,hn];rfl
    have rest:(c::r).foldl bu (some 0)=((c::r).drop (i+1)).foldl bu (bu (some n) d):=by rw[<- step,<- foldl_append,List.take_append_drop]
    have bad:bu (some n) d=none->Q .non H':=λe=>by rw[rest,e,j0]at hnum;rw[hnum]at k;exact k
    walk_at"rd";refine aY (λh1=>?_) (λh1=>?_)
    .walk_at"rd";show D.rt _ _;rw[hD];exact bad (by simp only[bu,if_pos h1])
    .walk_at"rd";refine aY (λh2=>?_) (λh2=>?_)
     .walk_at"rd";show D.rt _ _;rw[hD];exact bad (by simp only[bu,if_neg h1,if_pos h2])
     .walk_at"rd";refine gF (.inr ⟨by decide,by decide⟩) ?_;walk_at"rd";refine⟨rfl,_,_,rfl,?_⟩;rw[step];simp only[bu,if_neg h1,if_neg h2]
   .rintro σ H' ⟨rfl,n,z,rfl,hn⟩;walk_at"rd";rw[length_map,take_length]at hn;rw[hnum,hn]at k;show D.rt _ _;rw[hD];exact k
  walk_at"rd";refine aY (λh1=>?_) (λh1=>?_)
  .walk_at"rd";have e:dO (c::r)=none:=by unfold dO;rw[length_map]at h1;rw[if_pos (by omega)]
   rw[e]at k;exact k
  .have l9:¬9<(c::r).length:=by rw[length_map]at h1;omega
   walk_at"rd";refine bw hs (fg (j:=0) (z:=c) rfl) ?_;walk_at"rd";refine aY (λh2=>?_) (λh2=>?_)
   .walk_at"rd";refine aY (λh3=>?_) (λh3=>?_)
    .walk_at"rd";have e:dO (c::r)=none:=by unfold dO;rw[length_map]at h3;rw[if_neg l9,if_pos ⟨by rw[h2];rfl,by omega⟩]
     rw[e]at k;exact k
    .refine r9 ?_;refine loop { nx:=λ_ H'=>Q .non H',rt:=Q } rfl (by omega) ?_;unfold dO;rw[length_map]at h3;rw[if_neg l9,if_neg (λz=>h3 (by have:=z.2;omega))]
   .refine jz ?_;refine r9 ?_;refine loop { nx:=λ_ H'=>Q .non H',rt:=Q } rfl (by omega) ?_;unfold dO;rw[if_neg l9,if_neg (λz=>h2 (Option.some.inj z.1))]
def bh (m:Int):List Int->List (List Int)
 |[]=>[[]]
 |c::r=>if c=m then[]::bh m r else match bh m r with
  |[]=>[[c]]
  |p::l=>(c::p)::l
theorem gg (m:Int):∀l,∃p r,bh m l=p::r
 |[]=>⟨_,_,rfl⟩
 |c::l=>by
  obtain⟨p,r,e⟩:=gg m l;unfold bh;rw[e];by_cases h:c=m
  .rw[if_pos h];exact⟨_,_,rfl⟩
  .rw[if_neg h];exact⟨_,_,rfl⟩
def vS (cur:List Int):List (List Int)->List (List Int)
 |[]=>[cur]
 |p::l=>(cur++p)::l
theorem uF (m:Int)(l:List Int):vS [] (bh m l)=bh m l:=by obtain⟨p,r,e⟩:=gg m l;rw[e];rfl
theorem AI (m:Int)(cur l:List Int):vS cur (bh m (m::l))=cur::bh m l:=by show vS cur (if m=m then[]::bh m l else _)=_;rw[if_pos rfl];show(cur++[])::bh m l=_;rw[append_nil]
theorem yD {m c:Int}(h:¬c=m)(cur l:List Int):vS cur (bh m (c::l))=vS (cur++[c]) (bh m l):=by obtain⟨p,r,e⟩:=gg m l;show vS cur (if c=m then _ else match bh m l with|[]=>[[c]]|p::l=>(c::p)::l)=_;rw[if_neg h,e];show(cur++c::p)::r=(cur++[c]++p)::r;rw[List.append_assoc];rfl
theorem g0 {α:Type}{l:List α}{i:Nat}{x:α}(h:l[i]?=some x):l.drop i=x::l.drop (i+1):=by obtain⟨h1,h2⟩:=List.getElem?_eq_some_iff.mp h;rw[List.drop_eq_getElem_cons h1,h2]
inductive nW (K:PySem.W.Frag)(vs:List V)(H:Hp)(Q:VK)(E:XK):Prop
 |mk (a:Addr)(ns:List Int)(m:Int)(_:vs=[.ref a,.int m])(_:aR K H a (ns.map V.int))(_:ns.length<=2000)(_:∀(H':Hp) (p:Addr) (as:List Addr),au H H'->H p=none->H' p=some (.lst (as.map V.ref))->(∀a∈as,H a=none/\a≠p)->Paired (LI H') as (bh m ns)->Q (.ref p) H')
theorem iA {f:Addr}{fd:FuncData}(F:fX K "parts_between" "parts_between" du f fd):aG P w K mg base bO 1 f fd ["numbers","mark"] (nW K):=by
 refine F.ok c8 (λvs H Q E h=>?_) (λcdv A outer s H vs Q E hr h=>?_)
 .obtain⟨a,ns,m,rfl,_⟩:=h
  rfl
 .obtain⟨a,ns,m,rfl,hs,hlen,k⟩:=h;refine⟨_,(ae (aq (i:=2) c8.nd rfl (Or.inl rfl) (aw af)) (ae (aq (i:=3) c8.nd rfl (Or.inl rfl) (aw af)) (ae (ci PassesOwn.never rfl (bx (pv 0)) (aQ (i:=4) c8.nd rfl (Or.inl rfl)) (ai (bg (ay dH (pv 4) (pv 1) (aB _)) (ae (aV (dz PySem.F.plainAttrs_list PySem.F.slot_list_append PySem.F.type_list_append bZ (pv 2) (ab (pv 3) af))) (ai (aq (i:=3) c8.nd rfl (Or.inl rfl) (aw af)))) (ai (aV (dz PySem.F.plainAttrs_list PySem.F.slot_list_append PySem.F.type_list_append bZ (pv 3) (ab (pv 4) af))))))) (ae (aV (dz PySem.F.plainAttrs_list PySem.F.slot_list_append PySem.F.type_list_append bZ (pv 2) (ab (pv 3) af))) (ai (ao (pv 2))))))),?_⟩;walk_at"prep";walk_at"rd";refine⟨zero_le _,λq hq=>?_⟩;walk_at"rd";refine⟨zero_le _,λl hl=>?_⟩;have nlq:l≠q:=λe=>by rw[e,ac]at hl;cases hl
  have hl0:H l=none:=by rw[ah nlq]at hl;exact hl
  have hS:∀{H':Hp},au H H'->aR K H' a (ns.map V.int):=λe=>e.seq hs;have s0:au H (upd (upd H q (.lst [])) l (.lst [])):=((au.refl H).upd_new hq).upd_new hl0;walk_at"rd";refine⟨a,rfl,⟨_,hS s0⟩,?_⟩;refine bX (K:=K) (a:=a) (xs:=ns.map V.int) (λi σ H'=>∃(l:Addr) (z:Option V) (as:List Addr) (done:List (List Int)) (cur:List Int),σ=[some (.ref a),some (.int m),some (.ref q),some (.ref l),z]/\au H H'/\ H l=none/\l≠q/\(∀a∈as,H a=none/\a≠q/\a≠l)/\H' q=some (.lst (as.map V.ref))/\LI H' l cur/\Paired (LI H') as done/\as.length<=i/\cur.length<=i/\done++vS cur (bh m (ns.drop i))=bh m ns)
   ⟨l,none,[],[],[],rfl,s0,hl0,nlq,(λ_ h=>by cases h),(by rw[ah (Ne.symm nlq)];exact ac),ac,.nil,Nat.le_refl _,Nat.le_refl _,by rw[List.drop_zero];exact uF m ns⟩
   (λi σ H' _ ⟨_,_,_,_,_,_,s1,_⟩=>hS s1) ?_ ?_
  .rintro i y σ H' hi ⟨l,z,as,done,cur,rfl,s1,hl,nlq,has,hq',hl',hp,la,lc,eq⟩;obtain⟨d,hd,rfl⟩:=bb hi;have hi':i<ns.length:=(List.getElem?_eq_some_iff.mp hd).1;rw[g0 hd]at eq;walk_at"rd";refine aY (λh1=>?_) (λh1=>?_)
   .subst h1;walk_at"rd";refine fQ hq' (by rw[length_map,sizeLine_eq];omega) ?_;walk_at"rd";refine⟨zero_le _,λl2 hl2=>?_⟩;have n1:l2≠q:=λe=>by rw[e,ac]at hl2;cases hl2
    have hl2':H' l2=none:=by rw[ah n1]at hl2;exact hl2
    have n2:l≠l2:=aj hl' hl2';have n3:∀a∈as,a≠l2:=λa ha e=>by obtain⟨j,hj⟩:=List.mem_iff_getElem?.mp ha;obtain⟨b,_,hb⟩:=dj hp hj;exact aj hb hl2' e
    refine⟨l2,_,as++[l],done++[cur],[],rfl,(s1.upd_new hq).upd_new (s1.none_of hl2'),s1.none_of hl2',n1,?_,?_,ac,?_,?_,zero_le _,?_⟩
    .intro a ha;rcases mem_append.mp ha with ha|ha
     .exact⟨(has a ha).1,(has a ha).2.1,n3 a ha⟩
     .have e:a=l:=mem_singleton.mp ha;subst e;exact⟨hl,nlq,n2⟩
    .rw[ah (Ne.symm n1),ac,map_append];rfl
    .refine fh (aK hp λa ha b hb=>?_) ?_
     .show upd (upd H' q _) l2 _ a=_;rw[ah (n3 a ha),ah (has a ha).2.1];exact hb
     .show upd (upd H' q _) l2 _ l=_;rw[ah n2,ah nlq];exact hl'
    .rw[length_append];exact succ_le_succ la
    .rw[AI]at eq;rw[uF,List.append_assoc];exact eq
   .walk_at"rd";refine fQ hl' (by rw[length_map,sizeLine_eq];omega) ?_;walk_at"rd";refine⟨l,_,as,done,cur++[d],rfl,s1.upd_new hl,hl,nlq,has,(by rw[ah (Ne.symm nlq)];exact hq'),(by show upd _ _ _ _=_;rw[ac,map_append];rfl),aK hp (λa ha b hb=>?_),le_succ_of_le la,?_,?_⟩
    .show upd H' l _ a=_;rw[ah (has a ha).2.2];exact hb
    .rw[length_append];exact succ_le_succ lc
    .rw[yD h1]at eq;exact eq
  .rintro σ H' ⟨l,z,as,done,cur,rfl,s1,hl,nlq,has,hq',hl',hp,la,lc,eq⟩;rw[length_map]at la lc eq;rw[List.drop_length]at eq;walk_at"rd";refine fQ hq' (by rw[length_map,sizeLine_eq];omega) ?_;walk_at"rd";refine k _ q (as++[l]) (s1.upd_new hq) hq (by rw[ac,map_append];rfl) ?_ ?_
   .intro a ha;rcases mem_append.mp ha with ha|ha
    .exact⟨(has a ha).1,(has a ha).2.1⟩
    .have e:a=l:=mem_singleton.mp ha;subst e;exact⟨hl,nlq⟩
   .rw[<- eq];show Paired _ (as++[l]) (done++[cur++[]]);rw[append_nil];refine fh (aK hp λa ha b hb=>?_) ?_
    .show upd H' q _ a=_;rw[ah (has a ha).2.1];exact hb
    .show upd H' q _ l=_;rw[ah nlq];exact hl'
def bq (x:Str):List Int:=x.cps.toList.map λ(c:Nat)=>(c:Int)
inductive xw (vs:List V)(H:Hp)(Q:VK)(E:XK):Prop
 |mk (x:Str)(_:vs=[.str x])(_:x.length<=1000)(_:∀(H':Hp) (p:Addr),au H H'->H p=none->LI H' p (bq x)->Q (.ref p) H')
theorem mY {f:Addr}{fd:FuncData}(F:fX K "bytes_of" "bytes_of" iU f fd)(n_ord:mg "ord"=none):aG P w K mg base bO 1 f fd ["signs"] xw:=by
 refine F.ok jI (λvs H Q E h=>?_) (λcdv A outer s H vs Q E hr h=>?_)
 .obtain⟨x,rfl,_⟩:=h
  rfl
 .obtain⟨x,rfl,hlen,k⟩:=h;refine⟨_,ai (ao (im (own:=[("sign",1)]) rfl jI.nd (Ep (pv 0)) (dI rfl) (λs H C cl fp=>aQ (i:=1) jI.nd rfl (Or.inl rfl)) (λs H C cl fp=>eE) (λs H C cl fp=>aI zJ (by rfl) n_ord PyProof.Rows.boot_ord (ab (pv 1) af)))),?_⟩;walk_at"prep";walk_at"rd";refine⟨x,rfl,λD hD=>?_⟩;refine uv (J:=Gd x) (n:=x.cps.size) (λi H'=>au H H'/\LI H' D ((bq x).take i)) ⟨(au.refl H).upd_new hD,ac⟩ (λ_ _=>Nat.le_refl _) (λ_ _ h _=>h) ?_ ?_
  .rintro i H1 y H2 hi ⟨s1,h1⟩ ⟨e,c,hc,rfl⟩;subst e;have hl:(bq x)[i]?=some (c:Int):=by unfold bq;rw[getElem?_map,Array.getElem?_toList,hc];rfl
   walk_at"rd";refine⟨rfl,?_⟩;walk_at"rd";refine⟨_,rfl,rfl,?_⟩;refine⟨_,h1,?_,(s1.upd_new hD),?_⟩
   .rw[length_map,length_take,sizeLine_eq];have:x.cps.size<=1000:=hlen;omega
   .show upd _ _ _ _=_;rw[ac,aT hl,map_append];rfl
  .rintro H1 ⟨s1,h1⟩;refine k _ D s1 hD ?_;have e:(bq x).take x.cps.size=bq x:=take_of_length_le (by unfold bq;rw[length_map];exact le_of_eq length_toList);rw[e]at h1;exact h1
def bo (l:List Int):List (List Int):=(bh 32 l).filter λw=>!w.isEmpty
inductive sw (K:PySem.W.Frag)(vs:List V)(H:Hp)(Q:VK)(E:XK):Prop
 |mk (a:Addr)(ns:List Int)(_:vs=[.ref a])(_:aR K H a (ns.map V.int))(_:ns.length<=2000)(_:∀(H':Hp) (p:Addr) (as:List Addr),au H H'->H p=none->H' p=some (.lst (as.map V.ref))->(∀a∈as,H a=none/\a≠p)->Paired (LI H') as (bo ns)->Q (.ref p) H')
theorem iY (m:Int):∀l,(bh m l).length<=l.length+1
 |[]=>Nat.le_refl _
 |c::l=>by
  have ih:=iY m l;obtain⟨p,r,e⟩:=gg m l;unfold bh;rw[e]at ih ⊢;by_cases h:c=m
  .rw[if_pos h];exact succ_le_succ ih
  .rw[if_neg h];exact le_succ_of_le ih
structure Hg (K:PySem.W.Frag)(mg:Str->Option Value)(fp:Addr)(fdp:FuncData):Prop where
 f_parts_between:dC K mg "parts_between" du ["numbers","mark"] fp fdp
 n_len:mg "len"=none
 g_BLANK:∃t,mg "BLANK"=some (.int 32 t)
theorem uG {f fp:Addr}{fd fdp:FuncData}(F:fX K "words_of" "words_of" iT f fd)(T:Hg K mg fp fdp):aG P w K mg base bO 2 f fd ["line"] (sw K):=by
 have G_parts_between:aG P w K mg base bO 1 fp fdp ["numbers","mark"] (nW K):=iA T.f_parts_between.fn;refine F.ok jH (λvs H Q E h=>?_) (λcdv A outer s H vs Q E hr h=>?_)
 .obtain⟨a,ns,rfl,_⟩:=h
  rfl
 .obtain⟨a,ns,rfl,hs,hlen,k⟩:=h;refine⟨_,ai (ao (im (own:=[("word",1)]) rfl jH.nd (bx (bG T.f_parts_between G_parts_between hr (ab (pv 0) (ab (aS T.g_BLANK) af)))) (dI rfl) (λs H C cl fp=>aQ (i:=1) jH.nd rfl (Or.inl rfl)) (λs H C cl fp=>jW (ay fP (aI (yu K) (by rfl) T.n_len boot_len (ab (pv 1) af)) al (aB _))) (λs H C cl fp=>pv 1))),?_⟩;walk_at"prep";walk_at"rd";refine⟨a,ns,32,rfl,hs,hlen,λH1 p as s1 hp0 hp has hpr=>?_⟩;refine⟨p,rfl,⟨_,aR.of hp⟩,λD hD=>?_⟩;have hD0:H D=none:=s1.none_of hD;have npD:p≠D:=aj hp hD;have nD:∀a∈as,a≠D:=λa ha e=>by obtain⟨j,hj⟩:=List.mem_iff_getElem?.mp ha;obtain⟨b,_,hb⟩:=dj hpr hj;exact aj hb hD e
  have hal:as.length=(bh 32 ns).length:=PySem.Paired.length hpr;have hpl:=iY 32 ns;refine uv (J:=vo K p) (n:=as.length) (λi H'=>au H H'/\H' p=some (.lst (as.map V.ref))/\Paired (LI H') as (bh 32 ns)/\∃bs,H' D=some (.lst (bs.map V.ref))/\bs.length<=i/\(∀b∈bs,b∈as)/\ Paired (LI H') bs (((bh 32 ns).take i).filter λw=>!w.isEmpty))
   ⟨s1.upd_new hD0,(by rw[ah npD];exact hp),aK hpr (λa ha b hb=>by show upd _ _ _ _=_;rw[ah (nD a ha)];exact hb),[],ac,Nat.le_refl _,(λ_ h=>by cases h),.nil⟩
   (λH' h=>⟨_,aR.of h.2.1,by rw[length_map];exact Nat.le_refl _⟩) (λi H' hi h=>⟨_,.ref as[i],aR.of h.2.1,by rw[getElem?_map,List.getElem?_eq_getElem hi];rfl⟩) ?_ ?_
  .rintro i H2 y H3 hi ⟨s2,hp2,hpr2,bs,hb2,lb,hbs,hf⟩ ⟨e,hy⟩;subst e;obtain⟨b,hb,rfl⟩:=bb (hy _ (aR.of hp2));obtain⟨ws,hws,hbw⟩:=dj hpr2 hb;have bm:b∈as:=mem_of_getElem? hb;walk_at"rd";refine⟨rfl,?_⟩;walk_at"rd";refine aY (λh1=>?_) (λh1=>?_)
   .walk_at"rd";refine⟨_,hb2,(by rw[length_map,sizeLine_eq];omega),s2.upd_new hD0,(by rw[ah npD];exact hp2),aK hpr2 (λa ha c hc=>by show upd _ _ _ _=_;rw[ah (nD a ha)];exact hc),bs++[b],(by rw[ac,map_append];rfl),(by rw[length_append];exact succ_le_succ lb),?_,?_⟩
    .intro c hc;rcases mem_append.mp hc with hc|hc
     .exact hbs c hc
     .rw[mem_singleton.mp hc];exact bm
    .rw[aT hws,filter_append];have e1:(([ws]:List (List Int)).filter λw=>!w.isEmpty)=[ws]:=by
      rw[length_map]at h1;cases ws with
      |nil=>exact absurd h1 (by decide)
      |cons _ _=>rfl
     rw[e1];refine fh (aK hf λa ha c hc=>?_) ?_
     .show upd _ _ _ _=_;rw[ah (nD a (hbs a ha))];exact hc
     .show upd _ _ _ _=_;rw[ah (nD b bm)];exact hbw
   .refine⟨s2,hp2,hpr2,bs,hb2,le_succ_of_le lb,hbs,?_⟩;rw[aT hws,filter_append];have e1:(([ws]:List (List Int)).filter λw=>!w.isEmpty)=[]:=by
     rw[length_map]at h1;cases ws with
     |nil=>rfl
     |cons _ l=>exact absurd (show(0:Int)<((l.length+1:Nat):Int)by omega) h1
    rw[e1,append_nil];exact hf
  .rintro H2 ⟨s2,hp2,hpr2,bs,hb2,lb,hbs,hf⟩;rw[hal,take_length]at hf;refine k _ D bs s2 hD0 hb2 (λb hb=>⟨(has b (hbs b hb)).1,nD b (hbs b hb)⟩) hf
def bc:List (List Int)->List (Int×Int)->Option (List Int)
 |w::ws,b::bs=>match dO w with
  |none=>none
  |some n=>if n<b.1 then none else if b.2<n then none else(bc ws bs).map (n::·)
 |_,_=>some []
def bS (nm:List Int)(wss:List (List Int))(bnds:List (Int×Int)):Option (List Int):=match wss with
 |[]=>none
 |w::ws=>if ws.length=bnds.length then(if w=nm then bc ws bnds else none)else none
theorem vT {w:List Int}{ws:List (List Int)}{b:Int×Int}{bs:List (Int×Int)}{n:Int}(h:dO w=some n)(h1:¬n<b.1)(h2:¬b.2<n):bc (w::ws) (b::bs)=(bc ws bs).map (n::·):=by show(match dO w with|none=>none|some n=>if n<b.1 then none else if b.2<n then none else(bc ws bs).map (n::·))=_;rw[h];show(if n<b.1 then none else if b.2<n then none else(bc ws bs).map (n::·))=_;rw[if_neg h1,if_neg h2]
theorem vU {w:List Int}{ws:List (List Int)}{b:Int×Int}{bs:List (Int×Int)}(h:∀n,dO w=some n->n<b.1\/b.2<n):bc (w::ws) (b::bs)=none:=by
 show(match dO w with|none=>none|some n=>if n<b.1 then none else if b.2<n then none else(bc ws bs).map (n::·))=_;cases e:dO w with
 |none=>rfl
 |some n=>
  show(if n<b.1 then none else if b.2<n then none else(bc ws bs).map (n::·))=_;by_cases h1:n<b.1
  .rw[if_pos h1]
  .rw[if_neg h1,if_pos ((h n e).resolve_left h1)]
def my (K:PySem.W.Frag)(ba:Addr)(bnds:List (Int×Int)):Prop:=∃bs:List Addr,(∀H,eB K H ba (bs.map V.ref))/\Paired (λb (p:Int×Int)=>∀H,eB K H b [.int p.1,.int p.2]) bs bnds
def iZ (H:Hp)(wa:Addr)(wss:List (List Int)):Prop:=∃as:List Addr,H wa=some (.lst (as.map V.ref))/\Paired (LI H) as wss/\(∀w∈wss,w≠[])/\wss.length<=2001
inductive sy (K:PySem.W.Frag)(vs:List V)(H:Hp)(Q:VK)(E:XK):Prop
 |mk (nm:Str)(wa ba:Addr)(wss:List (List Int))(bnds:List (Int×Int))(_:vs=[.str nm,.ref wa,.ref ba])(_:nm.length<=1000)(_:iZ H wa wss)(_:my K ba bnds)(_:(bS (bq nm) wss bnds=none->∀H',au H H'->Q .non H'))(_:∀ns,bS (bq nm) wss bnds=some ns->∀(H':Hp) (p:Addr),au H H'->H p=none->LI H' p ns->Q (.ref p) H')
structure Hh (K:PySem.W.Frag)(mg:Str->Option Value)(fn fb:Addr)(fdn fdb:FuncData):Prop extends TN mg where
 f_number_of:dC K mg "number_of" gY ["word"] fn fdn
 f_bytes_of:dC K mg "bytes_of" iU ["signs"] fb fdb
 n_zip:mg "zip"=none
 n_ord:mg "ord"=none
theorem iZ.same {H H':Hp}{wa:Addr}{wss:List (List Int)}(W:iZ H wa wss)(s:au H H'):iZ H' wa wss:=by obtain⟨as,h1,h2,h3⟩:=W;exact⟨as,s _ _ h1,aK h2 λa _ b hb=>s _ _ hb,h3⟩
theorem lD {f fn fb:Addr}{fd fdn fdb:FuncData}(F:fX K "numbers_behind" "numbers_behind" cw f fd)(T:Hh K mg fn fb fdn fdb):aG P w K mg base bO 2 f fd ["name","words","bounds"] (sy K):=by
 have G_number_of:aG P w K mg base bO 1 fn fdn ["word"] (DU K):=su T.f_number_of.fn T.toTN;have G_bytes_of:aG P w K mg base bO 1 fb fdb ["signs"] xw:=mY T.f_bytes_of.fn T.n_ord;refine F.ok cP (λvs H Q E h=>?_) (λcdv A outer s H vs Q E hr h=>?_)
 .obtain⟨nm,wa,ba,wss,bnds,rfl,_⟩:=h
  rfl
 .obtain⟨nm,wa,ba,wss,bnds,rfl,hnm,⟨as,hwa,hws,hne,hwl⟩,⟨bs,hba,hbs⟩,k0,k1⟩:=h;have hu:(A.deeper (PyProof.Rows.envOfC "numbers_behind" (ak cw) s.heap.objs.size f cdv)).units+64<cLine:=hr.units;refine⟨_,(ae (bg (PW.pt (tN (ay jt (aI ax (by rfl) T.n_len boot_len (ab (pv 1) af)) (aL cD (aI ax (by rfl) T.n_len boot_len (ab (pv 2) af)) al) (aB _)) (rL (ay (El hu) (bf aJ (pv 1) al (λ_ _=>rfl)) (bG T.f_bytes_of G_bytes_of hr (ab (pv 0) af)) (aB _))))) (ai (ao kG)) aE) (ae (aq (i:=3) cP.nd rfl (Or.inl rfl) (aw af)) (ae (ci PassesOwn.never rfl (CC rfl T.n_zip (ab (oP rR (pv 1) (k8 al) Cc) (ab (pv 2) af))) (zE rfl (kZ (aQ (i:=4) cP.nd rfl (Or.inl rfl)) (kZ (aQ (i:=5) cP.nd rfl (Or.inl rfl)) wP))) (ae (aq (i:=6) cP.nd rfl (Or.inl rfl) (bG T.f_number_of G_number_of hr (ab (pv 4) af))) (ae (bg (PW.pt (tN (ay zI (pv 6) kG (aB _)) (tN (ay k7 (pv 6) (bf jv (pv 5) al (λ_ _=>rfl)) (aB _)) (rL (ay fP (pv 6) (bf jv (pv 5) al (λ_ _=>rfl)) (aB _)))))) (ai (ao kG)) aE) (ai (aV (dz PySem.F.plainAttrs_list PySem.F.slot_list_append PySem.F.type_list_append bZ (pv 3) (ab (pv 6) af))))))) (ai (ao (pv 3)))))),?_⟩;walk_at"prep";walk_at"rd";refine⟨_,_,rfl,.inr (hba H),?_⟩;walk_at"rd";have hal:as.length=wss.length:=PySem.Paired.length hws;have hbl:bs.length=bnds.length:=PySem.Paired.length hbs;refine dv (λh1=>?_) (λh1=>?_)
  .walk_at"rd";refine k0 ?_ _ (au.refl H);rw[length_map,length_map,hal,hbl]at h1;unfold bS;cases wss with
   |nil=>rfl
   |cons w ws=>exact if_neg λe=>h1 (by show((ws.length+1:Nat):Int)=_;omega)
  .rw[length_map,length_map,hal,hbl]at h1;obtain⟨w0,ws,rfl⟩:∃w0 ws,wss=w0::ws:=by
    cases wss with
    |nil=>exact absurd h1 (by show¬((0:Nat):Int)=_;omega)
    |cons w ws=>exact⟨w,ws,rfl⟩
   have hlen:ws.length=bnds.length:=by have:((ws.length+1:Nat):Int)=(bnds.length:Int)+1:=h1;omega
   obtain⟨a0,as',rfl⟩:∃a0 as',as=a0::as':=by
    cases as with
    |nil=>exact absurd hal (by simp)
    |cons a r=>exact⟨a,r,rfl⟩
   have hw0:LI H a0 w0:=by cases hws with|cons r t=>exact r
   have hws':Paired (LI H) as' ws:=by cases hws with|cons r t=>exact t
   walk_at"rd";refine bw (aR.of hwa) (aO (j:=0) rfl) ?_;walk_at"rd";refine⟨nm,rfl,hnm,λH1 q s1 hq hq1=>?_⟩;refine⟨.list (w0.map PyData.int),.list ((bq nm).map PyData.int),Dp.lst (aR.of (s1 _ _ hw0)) (lm _),Dp.lst (aR.of hq1) (lm _),ke_shaped_ints _,ke_shaped_ints _,?_⟩;walk_at"rd";have eeq:PyData.eqv (.list (w0.map PyData.int)) (.list ((bq nm).map PyData.int))=decide (w0=bq nm):=PySem.W.ked_eqvAll w0 (bq nm);rw[eeq];refine dv (λh2=>?_) (λh2=>?_)
   .walk_at"rd";refine k0 ?_ _ s1;show(if ws.length=bnds.length then(if w0=bq nm then bc ws bnds else none)else none)=none;rw[if_pos hlen,if_neg h2]
   .have hN:bS (bq nm) (w0::ws) bnds=bc ws bnds:=by show(if ws.length=bnds.length then(if w0=bq nm then bc ws bnds else none)else none)=_;rw[if_pos hlen,if_pos h2]
    rw[hN]at k0 k1;walk_at"rd";refine⟨zero_le _,λl hl=>?_⟩;walk_at"rd";have nwl:wa≠l:=aj (s1 _ _ hwa) hl;refine As (aR.of (by rw[ah nwl];exact s1 _ _ hwa)) (λp hp=>?_);have npl:p≠l:=λe=>by rw[e,ac]at hp;cases hp
    have hp1:H1 p=none:=by rw[ah npl]at hp;exact hp
    have ecut:nz ((a0::as').map V.ref) (some 1) none=as'.map V.ref:=Cs _ _;rw[ecut];have hl0:H l=none:=s1.none_of hl;have hp0:H p=none:=s1.none_of hp1;have s2:au H (upd (upd H1 l (.lst [])) p (.lst (as'.map V.ref))):=(s1.upd_new hl0).upd_new hp0;have hal':as'.length=ws.length:=PySem.Paired.length hws';walk_at"rd";refine⟨p,ba,_,_,rfl,aR.of ac,hba _,?_⟩;refine sg (J:=CA K p ba) (n:=ws.length) (λi σ H'=>∃(z4 z5 z6:Option V) (ns:List Int),σ=[some (.str nm),some (.ref wa),some (.ref ba),some (.ref l),z4,z5,z6]/\au H H'/\H' p=some (.lst (as'.map V.ref))/\LI H' l ns/\ns.length<=i/\ bc ws bnds=(bc (ws.drop i) (bnds.drop i)).map (ns++·))
     ⟨none,none,none,[],rfl,s2,ac,(by show upd _ _ _ _=_;rw[ah (Ne.symm npl)];exact ac),Nat.le_refl _,by
      rw[List.drop_zero,List.drop_zero];cases bc ws bnds<;>rfl⟩
     (λσ H' ⟨_,_,_,_,_,_,h,_⟩=>⟨_,aR.of h,by rw[length_map,hal'];exact Nat.le_refl _⟩)
     (λi σ H' hi ⟨_,_,_,_,_,_,h,_⟩=>⟨_,_,.ref (as'[i]'(by omega)),.ref (bs[i]'(by omega)),aR.of h,hba _,by rw[getElem?_map,List.getElem?_eq_getElem (by omega)];rfl,by rw[getElem?_map,List.getElem?_eq_getElem (by omega)];rfl⟩) ?_ ?_
    .rintro i σ H2 y H3 hi ⟨z4,z5,z6,ns,rfl,s3,hp3,hl3,ln,eq⟩ ⟨Tn,x,v,rfl,hTn,rfl,hx,hv⟩;obtain⟨a,ha,rfl⟩:=bb (hx _ (aR.of hp3));obtain⟨b,hb,rfl⟩:=bb (hv _ (hba H2));obtain⟨wd,hwd,hla⟩:=dj hws' ha;obtain⟨bd,hbd,hlb⟩:=dj hbs hb;have hTn0:H Tn=none:=s3.none_of hTn;have s4:au H (upd H2 Tn (.tup [.ref a,.ref b])):=s3.upd_new hTn0;have wne:wd≠[]:=hne wd (mem_cons_of_mem _ (mem_of_getElem? hwd));have npT:p≠Tn:=aj hp3 hTn;have nlT:l≠Tn:=aj hl3 hTn;rw[g0 hwd,g0 hbd]at eq;refine⟨Tn,_,rfl,eB.of ac,rfl,_,_,rfl,?_⟩;refine⟨_,_,rfl,rfl,?_⟩;walk_at"rd";refine⟨a,wd,rfl,aR.of (s4 _ _ hla),wne,?_⟩;have bad:(∀n,dO wd=some n->n<bd.1\/bd.2<n)->Q .non (upd H2 Tn (.tup [.ref a,.ref b])):=λhb=>by
      refine k0 ?_ _ s4;rw[eq,vU hb]
      rfl
     cases en:dO wd with
     |none=>
      dsimp only[Ex];walk_at"rd";refine bad (λn e=>?_);rw[en]at e;cases e
     |some n=>
      dsimp only[Ex];walk_at"rd";refine mR (hlb _) (aO (j:=0) rfl) ?_;walk_at"rd";refine aY (λh3=>?_) (λh3=>?_)
      .walk_at"rd";refine bad (λm e=>?_);rw[en]at e;cases e;exact .inl h3
      .walk_at"rd";refine mR (hlb _) (aO (j:=1) rfl) ?_;walk_at"rd";refine aY (λh4=>?_) (λh4=>?_)
       .walk_at"rd";refine bad (λm e=>?_);rw[en]at e;cases e;exact .inr h4
       .walk_at"rd";have hl4:LI (upd H2 Tn (.tup [.ref a,.ref b])) l ns:=by show upd _ _ _ _=_;rw[ah nlT];exact hl3
        refine fQ hl4 (by rw[length_map,sizeLine_eq];have:(w0::ws).length<=2001:=hwl;rw[length_cons]at this;omega) ?_;walk_at"rd";refine⟨_,_,_,ns++[n],rfl,s4.upd_new hl0,?_,?_,?_,?_⟩
        .rw[ah npl,ah npT];exact hp3
        .show upd _ _ _ _=_;rw[ac,map_append];rfl
        .rw[length_append];exact succ_le_succ ln
        .rw[eq,vT en h3 h4];cases bc (ws.drop (i+1)) (bnds.drop (i+1))with
         |none=>rfl
         |some r=>show some (ns++n::r)=some (ns++[n]++r);rw[List.append_assoc];rfl
    .rintro σ H2 ⟨z4,z5,z6,ns,rfl,s3,hp3,hl3,ln,eq⟩;walk_at"rd";refine k1 ns ?_ _ l s3 hl0 hl3;rw[eq,List.drop_length];show(some ([]:List Int)).map (ns++·)=_;show some (ns++[])=some ns;rw[append_nil]
theorem oX:∀{ws:List (List Int)} {bs:List (Int×Int)} {ns:List Int},ws.length=bs.length->bc ws bs=some ns->ns.length=bs.length
 |[],[],ns,_,h=>by cases h;rfl
 |w::ws,b::bs,ns,hl,h=>by
  have h':(match dO w with|none=>none|some n=>if n<b.1 then none else if b.2<n then none else(bc ws bs).map (n::·))=some ns:=h;cases e:dO w with
  |none=>rw[e]at h';cases h'
  |some n=>
   rw[e]at h';have h2:(if n<b.1 then none else if b.2<n then none else(bc ws bs).map (n::·))=some ns:=h';by_cases h3:n<b.1
   .rw[if_pos h3]at h2;cases h2
   .by_cases h4:b.2<n
    .rw[if_neg h3,if_pos h4]at h2;cases h2
    .rw[if_neg h3,if_neg h4]at h2;cases e2:bc ws bs with
     |none=>rw[e2]at h2;cases h2
     |some r=>
      rw[e2]at h2;cases h2;have ih:=oX (ws:=ws) (bs:=bs) (ns:=r) (by simpa using hl) e2;show r.length+1=bs.length+1;rw[ih]
theorem oY {nm:List Int}{wss:List (List Int)}{bs:List (Int×Int)}{ns:List Int}(h:bS nm wss bs=some ns):ns.length=bs.length:=by
 unfold bS at h;cases wss with
 |nil=>cases h
 |cons w ws=>
  have h':(if ws.length=bs.length then(if w=nm then bc ws bs else none)else none)=some ns:=h;by_cases h1:ws.length=bs.length
  .rw[if_pos h1]at h';by_cases h2:w=nm
   .rw[if_pos h2]at h';exact oX h1 h'
   .rw[if_neg h2]at h';cases h'
  .rw[if_neg h1]at h';cases h'
def cq (nm:List Int)(wss:List (List Int)):Int:=match bS nm wss [(1,10)]with
 |some (n::_)=>n
 |_=>0
inductive sA (vs:List V)(H:Hp)(Q:VK)(E:XK):Prop
 |mk (nm:Str)(wa:Addr)(wss:List (List Int))(_:vs=[.str nm,.ref wa])(_:nm.length<=1000)(_:iZ H wa wss)(_:∀H',au H H'->Q (.int (cq (bq nm) wss)) H')
structure Hi (K:PySem.W.Frag)(mg:Str->Option Value)(fnb:Addr)(fdnb:FuncData)(hb:Addr):Prop where
 f_numbers_behind:dC K mg "numbers_behind" cw ["name","words","bounds"] fnb fdnb
 r_HOUSE_BOUNDS:mg "HOUSE_BOUNDS"=some (.ref hb)
 b_HOUSE_BOUNDS:my K hb [(1,10)]
theorem nB {f fnb hb:Addr}{fd fdnb:FuncData}(F:fX K "house_behind" "house_behind" eK f fd)(T:Hi K mg fnb fdnb hb)(G_numbers_behind:aG P w K mg base bO 2 fnb fdnb ["name","words","bounds"] (sy K)) :
  aG P w K mg base bO 3 f fd ["name","words"] sA:=by
 refine F.ok i9 (λvs H Q E h=>?_) (λcdv A outer s H vs Q E hr h=>?_)
 .obtain⟨nm,wa,wss,rfl,_⟩:=h
  rfl
 .obtain⟨nm,wa,wss,rfl,hnm,W,k⟩:=h;refine⟨_,(ae (aq (i:=2) i9.nd rfl (Or.inl rfl) (bG T.f_numbers_behind G_numbers_behind hr (ab (pv 0) (ab (pv 1) (ab (xi T.r_HOUSE_BOUNDS) af))))) (ai (ao (oF (ay zI (pv 2) kG (aB _)) al (bf aJ (pv 2) al (λ_ _=>rfl)))))),?_⟩;walk_at"prep";walk_at"rd";refine⟨nm,wa,hb,wss,[(1,10)],rfl,hnm,W,T.b_HOUSE_BOUNDS,λe H' s1=>?_,λns e H' p s1 hp hl=>?_⟩
  .walk_at"rd";have q:=k H' s1;unfold cq at q;rw[e]at q;exact q
  .walk_at"rd";have hl1:=oY e;obtain⟨n,rfl⟩:∃n,ns=[n]:=by
    match ns,hl1 with
    |[n],_=>exact⟨n,rfl⟩
   refine bw (aR.of hl) (aO (j:=0) rfl) ?_;have q:=k H' s1;unfold cq at q;rw[e]at q;exact q
inductive mZ (C:Addr)(vs:List V)(H:Hp)(Q:VK)(E:XK):Prop
 |mk (x dx:Addr)(a b:V)(_:vs=[.ref x,a,b])(_:H x=some (.ins C dx []))(_:Q .non (upd H x (.ins C dx [("name",a),("numbers",b)])))
structure GC (K:PySem.W.Frag)(C:Addr):Prop where
 cl:lS K C
 n_name:aN K C "name"
 n_numbers:aN K C "numbers"
theorem bH {H:Hp}{a:Addr}{o u:HO}:upd (upd H a o) a u=upd H a u:=by
 funext b;unfold upd;by_cases h:b=a
 .rw[if_pos h,if_pos h]
 .rw[if_neg h,if_neg h,if_neg h]
theorem pW {f C:Addr}{fd:FuncData}(F:fX K "__init__" "Entry.__init__" c7 f fd)(T:GC K C):aG P w K mg base bO 1 f fd ["self","name","numbers"] (mZ C):=by
 refine F.ok lx (λvs H Q E h=>?_) (λcdv A outer s H vs Q E hr h=>?_)
 .obtain⟨x,dx,a,b,rfl,_⟩:=h
  rfl
 .obtain⟨x,dx,a,b,rfl,hx,k⟩:=h;have cl:=T.cl;have n1:=T.n_name;have n2:=T.n_numbers;refine⟨_,ae (bp (pv 0) (pv 1) rfl) (ai (bp (pv 0) (pv 2) rfl)),?_⟩;walk_at"prep";walk_at"rd";refine xm hx cl n1 (lb rfl) ?_;walk_at"rd";refine xm ac cl n2 (lb rfl) ?_;rw[bH];exact k
def b1:List (Int×Int):=[(0,999999999),(1,999999),(0,999999)]
def b2:List (Int×Int):=[(0,99999),(0,999999999)]
def b3:List (Int×Int):=[(1,9),(1,999999999)]
def uH:List (Str×List (Int×Int)):=[("DUES",b1),("TRANSIT",b2),("ORDERS",b3)]
def lE (wss:List (List Int)):List (Str×List (Int×Int))->Option (Str×List Int)
 |[]=>none
 |x::l=>match bS (bq x.1) wss x.2 with
  |some ns=>some (x.1,ns)
  |none=>lE wss l
def g9 (wss:List (List Int)):Option (Str×List Int):=lE wss uH
def Ey (wl sd rc:Int)(ea:Addr):List (Str×V):=[("wrong_line",.int wl),("sender",.int sd),("receiver",.int rc),("entries",.ref ea)]
inductive sB (K:PySem.W.Frag)(CR CE:Addr)(vs:List V)(H:Hp)(Q:VK)(E:XK):Prop
 |mk (ra wa dx ea:Addr)(wl sd rc:Int)(es:List V)(wss:List (List Int))(_:vs=[.ref ra,.ref wa])(_:H ra=some (.ins CR dx (Ey wl sd rc ea)))(_:H ea=some (.lst es))(_:es.length<=2000)(_:iZ H wa wss)(_:(g9 wss=none->∀H',au H H'->Q (.bl false) H'))(_:∀nm ns,g9 wss=some (nm,ns)->∀(H':Hp) (e de na:Addr),H e=none->H na=none->(∀b o,H b=some o->b≠ea->H' b=some o)->H' ea=some (.lst (es++[.ref e]))->H' e=some (.ins CE de [("name",.str nm),("numbers",.ref na)])->LI H' na ns->Q (.bl true) H')
structure Hj (P:Program)(w:World)(K:PySem.W.Frag)(mg:Str->Option Value)(fnb:Addr)(fdnb:FuncData)(eb CR CE fE:Addr)(fdE:FuncData):Prop where
 f_numbers_behind:dC K mg "numbers_behind" cw ["name","words","bounds"] fnb fdnb
 r_ENTRY_BOUNDS:mg "ENTRY_BOUNDS"=some (.ref eb)
 b_ENTRY_BOUNDS:∃d1 d2 d3,gO P w K eb [(.inr "DUES",.ref d1),(.inr "TRANSIT",.ref d2),(.inr "ORDERS",.ref d3)]/\my K d1 b1/\my K d2 b2/\my K d3 b3
 clR:lS K CR
 nR_entries:aN K CR "entries"
 tE:GC K CE
 cE:zn K mg "Entry" CE fE
 fE:fX K "__init__" "Entry.__init__" c7 fE fdE
 bE:dm K fdE ["self","name","numbers"] []
theorem AJ {d1 d2 d3:Addr}(h1:my K d1 b1)(h2:my K d2 b2)(h3:my K d3 b3){i:Nat}{k:cT}{v:V}(h:([(.inr "DUES",.ref d1),(.inr "TRANSIT",.ref d2),(.inr "ORDERS",.ref d3)]:List (cT×V))[i]?=some (k,v)) :
  ∃(x:Str×List (Int×Int)) (d:Addr),uH[i]?=some x/\k = .inr x.1/\v = .ref d/\my K d x.2/\cS ([(.inr "DUES",.ref d1),(.inr "TRANSIT",.ref d2),(.inr "ORDERS",.ref d3)]:List (cT×V)) (.inr x.1)=some (.ref d)/\x.1.length<=1000:=by
 match i,h with
 |0,h=>
  cases h;exact⟨_,_,rfl,rfl,rfl,h1,rfl,by decide +kernel⟩
 |1,h=>
  cases h;exact⟨_,_,rfl,rfl,rfl,h2,rfl,by decide +kernel⟩
 |2,h=>
  cases h;exact⟨_,_,rfl,rfl,rfl,h3,rfl,by decide +kernel⟩
 |i+3,h=>simp at h
theorem pY {f fnb eb CR CE fE:Addr}{fd fdnb fdE:FuncData}(F:fX K "take_entry" "take_entry" fY f fd)(T:Hj P w K mg fnb fdnb eb CR CE fE fdE)(G_numbers_behind:aG P w K mg base bO 2 fnb fdnb ["name","words","bounds"] (sy K)) :
  aG P w K mg base bO 3 f fd ["reading","words"] (sB K CR CE):=by
 have G_Entry___init__:aG P w K mg base bO 1 fE fdE ["self","name","numbers"] (mZ CE):=pW T.fE T.tE;refine F.ok ie (λvs H Q E h=>?_) (λcdv A outer s H vs Q E hr h=>?_)
 .obtain⟨ra,wa,_,_,_,_,_,_,_,rfl,_⟩:=h
  rfl
 .obtain⟨ra,wa,dx,ea,wl,sd,rc,es,wss,rfl,hra,hea,hel,W,k0,k1⟩:=h;obtain⟨d1,d2,d3,hM,hb1,hb2,hb3⟩:=T.b_ENTRY_BOUNDS;have clR:=T.clR;have nR:=T.nR_entries;refine⟨_,(ae (ci PassesOwn.never rfl (Ae (xi T.r_ENTRY_BOUNDS)) (aQ (i:=2) ie.nd rfl (Or.inl rfl)) (ae (aq (i:=3) ie.nd rfl (Or.inl rfl) (bG T.f_numbers_behind G_numbers_behind hr (ab (pv 2) (ab (pv 1) (ab (xj (xi T.r_ENTRY_BOUNDS) (pv 2) (λ_ _=>rfl)) af))))) (ai (bg (ay B0 (pv 3) kG (aB _)) (ae (aV (dz PySem.F.plainAttrs_list PySem.F.slot_list_append PySem.F.type_list_append bZ (am (pv 0) rfl) (ab (mS T.cE T.bE G_Entry___init__ hr (ab (pv 2) (ab (pv 3) af))) af))) (ai (ao qr))) aE)))) (ai (ao qr))),?_⟩;walk_at"prep";walk_at"rd";refine⟨eb,_,rfl,hM,?_⟩;refine yt (λi σ H'=>∃z2 z3:Option V,σ=[some (.ref ra),some (.ref wa),z2,z3]/\au H H'/\g9 wss=lE wss (uH.drop i)) ⟨none,none,rfl,au.refl H,rfl⟩ ?_ ?_
  .rintro i kk v σ H' hi ⟨z2,z3,rfl,s1,eq⟩;obtain⟨x,d,hx,rfl,rfl,hB,hV,hxl⟩:=AJ hb1 hb2 hb3 hi;rw[g0 hx]at eq;have hra':=s1 _ _ hra;have hea':=s1 _ _ hea;walk_at"rd";refine⟨eb,_,_,_,rfl,hM,rfl,hV,?_⟩;walk_at"rd";refine⟨x.1,wa,d,wss,x.2,rfl,hxl,W.same s1,hB,λe H2 s2=>?_,λns e H2 p s2 hp hl=>?_⟩
   .walk_at"rd";refine⟨_,_,rfl,s1.trans s2,?_⟩;rw[eq];show(match bS (bq x.1) wss x.2 with|some ns=>some (x.1,ns)|none=>lE wss (uH.drop (i+1)))=_;rw[e]
   .have ent:g9 wss=some (x.1,ns):=by rw[eq];show(match bS (bq x.1) wss x.2 with|some ns=>some (x.1,ns)|none=>lE wss (uH.drop (i+1)))=_;rw[e]
    have s3:=s1.trans s2;have hra2:=s2 _ _ hra';have hea2:=s2 _ _ hea';walk_at"rd";refine⟨_,_,_,_,_,rfl,hra2,clR,nR,rfl,?_⟩;refine Al (aR.of hea2) ?_;walk_at"rd";intro en de hen hde nde;refine⟨en,de,_,_,rfl,ac,rfl,?_⟩;have ne1:ea≠en:=aj hea2 hen;have ne2:ea≠de:=aj hea2 hde;have np1:p≠en:=aj hl hen;have np2:p≠de:=aj hl hde;rw[bH];walk_at"rd";refine fQ (xs:=es) (by rw[ah ne1,ah ne2];exact hea2) (by rw[sizeLine_eq];omega) ?_;walk_at"rd";have hen0:H en=none:=s3.none_of hen;have hde0:H de=none:=s3.none_of hde;have hp0:H p=none:=s1.none_of hp;refine k1 x.1 ns ent _ en de p hen0 hp0 (λb o hb nb=>?_) ac ?_ ?_
    .rw[ah nb,ah (aj hb hen0),ah (aj hb hde0)];exact s3 b o hb
    .rw[ah (Ne.symm ne1),ac];rfl
    .show upd _ _ _ _=_;rw[ah (Ne.symm (aj hea hp0)),ah np1,ah np2];exact hl
  .rintro σ H' ⟨z2,z3,rfl,s1,eq⟩;walk_at"rd";exact k0 eq H' s1
abbrev i3:=Str×List Int
def bD (sd rc:Int)(es:List i3)(place:Int)(wss:List (List Int)):Bool×Int×Int×List i3:=if place=1 then(decide (0<cq (bq "FROM") wss),cq (bq "FROM") wss,rc,es)
 else if place=2 then((if 0<cq (bq "TO") wss then !decide (cq (bq "TO") wss=sd)else false),sd,cq (bq "TO") wss,es)
 else if 12<place then(false,sd,rc,es)
 else match g9 wss with
  |none=>(false,sd,rc,es)
  |some x=>(true,sd,rc,es++[x])
def oZ (CE:Addr)(H:Hp)(e:Addr×Addr)(x:i3):Prop:=∃dx,H e.1=some (.ins CE dx [("name",.str x.1),("numbers",.ref e.2)])/\LI H e.2 x.2
structure kO (CR CE:Addr)(H:Hp)(ra ea:Addr)(wl sd rc:Int)(es:List (Addr×Addr))(xs:List i3):Prop where
 obj:∃dx,H ra=some (.ins CR dx (Ey wl sd rc ea))
 lst:H ea=some (.lst (es.map λe=>.ref e.1))
 ents:Paired (oZ CE H) es xs
 ne:∀e∈es,e.1≠ra/\e.2≠ea
theorem kO.same {CR CE:Addr}{H H':Hp}{ra ea:Addr}{wl sd rc:Int}{es:List (Addr×Addr)}{xs:List i3}(R:kO CR CE H ra ea wl sd rc es xs)(s:au H H'):kO CR CE H' ra ea wl sd rc es xs:=by obtain⟨⟨dx,h1⟩,h2,h3,h4⟩:=R;exact⟨⟨dx,s _ _ h1⟩,s _ _ h2,aK h3 λe _ x ⟨d,q1,q2⟩=>⟨d,s _ _ q1,s _ _ q2⟩,h4⟩
def FM (ra ea:Addr)(H H':Hp):Prop:=∀b o,H b=some o->b≠ra->b≠ea->H' b=some o
inductive vV (K:PySem.W.Frag)(CR CE:Addr)(vs:List V)(H:Hp)(Q:VK)(E:XK):Prop
 |mk (ra ea wa:Addr)(place sd rc:Int)(es:List (Addr×Addr))(xs:List i3)(wss:List (List Int))(_:vs=[.ref ra,.int place,.ref wa])(_:kO CR CE H ra ea 0 sd rc es xs)(_:es.length<=2000)(_:iZ H wa wss)(_:∀(H':Hp) (es':List (Addr×Addr)),FM ra ea H H'->(∀e∈es',e∈es\/H e.1=none/\H e.2=none)->es'.length<=es.length+1->kO CR CE H' ra ea 0 (bD sd rc xs place wss).2.1 (bD sd rc xs place wss).2.2.1 es' (bD sd rc xs place wss).2.2.2->Q (.bl (bD sd rc xs place wss).1) H')
structure Hk (K:PySem.W.Frag)(mg:Str->Option Value)(CR CE fhb fte:Addr)(fdhb fdte:FuncData):Prop where
 f_house_behind:dC K mg "house_behind" eK ["name","words"] fhb fdhb
 f_take_entry:dC K mg "take_entry" fY ["reading","words"] fte fdte
 g_FROM_PLACE:∃t,mg "FROM_PLACE"=some (.int 1 t)
 g_TO_PLACE:∃t,mg "TO_PLACE"=some (.int 2 t)
 g_LAST_PLACE:∃t,mg "LAST_PLACE"=some (.int 12 t)
 clR:lS K CR
 nR_wrong_line:aN K CR "wrong_line"
 nR_sender:aN K CR "sender"
 nR_receiver:aN K CR "receiver"
 nR_entries:aN K CR "entries"
theorem sC {f CR CE fhb fte:Addr}{fd fdhb fdte:FuncData}(F:fX K "take_line" "take_line" gX f fd)(T:Hk K mg CR CE fhb fte fdhb fdte)
  (G_house_behind:aG P w K mg base bO 3 fhb fdhb ["name","words"] sA) (G_take_entry:aG P w K mg base bO 3 fte fdte ["reading","words"] (sB K CR CE)) :
  aG P w K mg base bO 4 f fd ["reading","place","words"] (vV K CR CE):=by
 refine F.ok sr (λvs H Q E h=>?_) (λcdv A outer s H vs Q E hr h=>?_)
 .obtain⟨_,_,_,_,_,_,_,_,_,rfl,_⟩:=h
  rfl
 .obtain⟨ra,ea,wa,place,sd,rc,es,xs,wss,rfl,R,hel,W,k⟩:=h;have clR:=T.clR;have n1:=T.nR_sender;have n2:=T.nR_receiver;refine⟨_,(ae (bg (ay dH (pv 1) (aS T.g_FROM_PLACE) (aB _)) (ae (bp (pv 0) (bG T.f_house_behind G_house_behind hr (ab iJ (ab (pv 2) af))) rfl) (ai (ao (gL fP (am (pv 0) rfl) al (aB _))))) aE) (ae (bg (ay dH (pv 1) (aS T.g_TO_PLACE) (aB _)) (ae (bp (pv 0) (bG T.f_house_behind G_house_behind hr (ab iJ (ab (pv 2) af))) rfl) (ai (ao (vB (gL fP (am (pv 0) rfl) al (aB _)) (vA (gL jt (am (pv 0) rfl) (am (pv 0) rfl) (aB _))))))) aE) (ae (bg (ay fP (pv 1) (aS T.g_LAST_PLACE) (aB _)) (ai (ao qr)) aE) (ai (ao (bG T.f_take_entry G_take_entry hr (ab (pv 0) (ab (pv 2) af)))))))),?_⟩;obtain⟨⟨dx,hra⟩,hea,hents,hne⟩:=id R;have nre:ra≠ea:=aP hra hea (by intro z;cases z);have setN:∀{H1:Hp} {a b:Int},au H H1->kO CR CE (upd H1 ra (.ins CR dx (Ey 0 a b ea))) ra ea 0 a b es xs:=λ{H1 a b} s1=>by
   obtain⟨⟨dx1,h1⟩,h2,h3,h4⟩:=R.same s1;refine⟨⟨dx,ac⟩,by rw[ah (Ne.symm nre)];exact h2,aK h3 λe he x ⟨d,q1,q2⟩=>⟨d,?_,?_⟩,h4⟩
   .rw[ah (h4 e he).1];exact q1
   .show upd _ _ _ _=_;rw[ah (aP q2 h1 (by intro z;cases z))];exact q2
  have but:∀{H1:Hp} {o:HO},au H H1->FM ra ea H (upd H1 ra o):=λ{H1 o} s1 b u hb nb _=>by rw[ah nb];exact s1 b u hb
  walk_at"prep";walk_at"rd";refine aY (λh1=>?_) (λh1=>?_)
  .walk_at"rd";refine⟨"FROM",wa,wss,rfl,by decide +kernel,W,λH1 s1=>?_⟩;walk_at"rd";refine⟨_,_,_,_,rfl,s1 _ _ hra,clR,n1,lb rfl,?_⟩;walk_at"rd";refine⟨_,_,_,_,_,rfl,ac,clR,n1,rfl,?_⟩;walk_at"rd";have e:bD sd rc xs place wss=(decide (0<cq (bq "FROM") wss),cq (bq "FROM") wss,rc,xs):=if_pos h1;rw[e]at k;exact k _ es (but s1) (λe he=>.inl he) (le_succ _) (setN s1)
  .walk_at"rd";refine aY (λh2=>?_) (λh2=>?_)
   .walk_at"rd";refine⟨"TO",wa,wss,rfl,by decide +kernel,W,λH1 s1=>?_⟩;walk_at"rd";refine⟨_,_,_,_,rfl,s1 _ _ hra,clR,n2,lb rfl,?_⟩;walk_at"rd";refine⟨_,_,_,_,_,rfl,ac,clR,n2,rfl,?_⟩;walk_at"rd";have e:bD sd rc xs place wss=((if 0<cq (bq "TO") wss then !decide (cq (bq "TO") wss=sd)else false),sd,cq (bq "TO") wss,xs):=by unfold bD;rw[if_neg h1,if_pos h2]
    rw[e]at k;have q:=k _ es (but s1) (λe he=>.inl he) (le_succ _) (setN s1);refine aY (λh3=>?_) (λh3=>?_)
    .rw[if_pos h3]at q;walk_at"rd";refine⟨_,_,_,_,_,rfl,ac,clR,n2,rfl,?_⟩;walk_at"rd";refine⟨_,_,_,_,_,rfl,ac,clR,n1,rfl,?_⟩;walk_at"rd";exact q
    .rw[if_neg h3]at q;exact q
   .walk_at"rd";refine aY (λh3=>?_) (λh3=>?_)
    .walk_at"rd";have e:bD sd rc xs place wss=(false,sd,rc,xs):=by unfold bD;rw[if_neg h1,if_neg h2,if_pos h3]
     rw[e]at k;exact k _ es (λb o hb _ _=>hb) (λe he=>.inl he) (le_succ _) R
    .have e:bD sd rc xs place wss=(match g9 wss with|none=>(false,sd,rc,xs)|some x=>(true,sd,rc,xs++[x])):=by unfold bD;rw[if_neg h1,if_neg h2,if_neg h3]
     rw[e]at k;walk_at"rd";refine⟨ra,wa,dx,ea,0,sd,rc,_,wss,rfl,hra,hea,by rw[length_map];exact hel,W,λe0 H' s1=>?_,λnm ns e0 H' en de na hen hna hk hl he hn=>?_⟩
     .rw[e0]at k;exact k _ es (λb o hb _ _=>s1 b o hb) (λe he=>.inl he) (le_succ _) (R.same s1)
     .rw[e0]at k;refine k _ (es++[(en,na)]) (λb o hb _ nb=>hk b o hb nb) (λe he=>?_) (by rw[length_append];exact Nat.le_refl _) ⟨⟨dx,hk _ _ hra nre⟩,by rw[hl,map_append];rfl,?_,?_⟩
      .rcases mem_append.mp he with he|he
       .exact .inl he
       .rw[mem_singleton.mp he];exact .inr ⟨hen,hna⟩
      .refine fh (aK hents λe he' x ⟨d,q1,q2⟩=>⟨d,hk _ _ q1 (aP q1 hea (by intro z;cases z)),hk _ _ q2 (hne e he').2⟩) ⟨de,he,hn⟩
      .intro e he';rcases mem_append.mp he' with he'|he'
       .exact hne e he'
       .rw[mem_singleton.mp he'];exact⟨Ne.symm (aj hra hen),Ne.symm (aj hea hna)⟩
def aW:Int->Int->Int->List i3->List (List Int)->Int×Int×Int×List i3
 |_,sd,rc,xs,[]=>(0,sd,rc,xs)
 |p,sd,rc,xs,l::ls=>if (bD sd rc xs p (bo l)).1=true then aW (p+1) (bD sd rc xs p (bo l)).2.1 (bD sd rc xs p (bo l)).2.2.1 (bD sd rc xs p (bo l)).2.2.2 ls
  else(p,(bD sd rc xs p (bo l)).2)
def fF (text:List Int):Int×Int×Int×List i3:=if (aW 1 0 0 [] (bh 10 text)).1=0/\(aW 1 0 0 [] (bh 10 text)).2.2.2=[]then(((bh 10 text).length:Int)+1,(aW 1 0 0 [] (bh 10 text)).2)else aW 1 0 0 [] (bh 10 text)
theorem ng (m:Int):∀(l:List Int) (p:List Int),p∈bh m l->p.length<=l.length
 |[],p,h=>by have e:p=[]:=mem_singleton.mp h;rw[e];exact Nat.le_refl _
 |c::l,p,h=>by
  have ih:=ng m l;obtain⟨q,r,e⟩:=gg m l;unfold bh at h;rw[e]at h ih;by_cases hc:c=m
  .rw[if_pos hc]at h;rcases mem_cons.mp h with h|h
   .rw[h];exact zero_le _
   .exact le_succ_of_le (ih p h)
  .rw[if_neg hc]at h;rcases mem_cons.mp h with h|h
   .rw[h];exact succ_le_succ (ih q (mem_cons_self ..))
   .exact le_succ_of_le (ih p (mem_cons_of_mem _ h))
theorem yE {l w:List Int}(h:w∈bo l):w≠[]:=by have:=(mem_filter.mp h).2;intro e;rw[e]at this;cases this
theorem vW (l:List Int):(bo l).length<=l.length+1:=le_trans (length_filter_le _ _) (iY 32 l)
structure GV (K:PySem.W.Frag)(C:Addr):Prop where
 cl:lS K C
 n_wrong_line:aN K C "wrong_line"
 n_sender:aN K C "sender"
 n_receiver:aN K C "receiver"
 n_entries:aN K C "entries"
inductive o0 (C:Addr)(vs:List V)(H:Hp)(Q:VK)(E:XK):Prop
 |mk (x dx:Addr)(_:vs=[.ref x])(_:H x=some (.ins C dx []))(_:∀(H':Hp) (ea:Addr),H ea=none->H' x=some (.ins C dx (Ey 0 0 0 ea))->H' ea=some (.lst [])->(∀b o,H b=some o->b≠x->H' b=some o)->Q .non H')
theorem nE {f C:Addr}{fd:FuncData}(F:fX K "__init__" "Reading.__init__" cA f fd)(T:GV K C):aG P w K mg base bO 1 f fd ["self"] (o0 C):=by
 refine F.ok kh (λvs H Q E h=>?_) (λcdv A outer s H vs Q E hr h=>?_)
 .obtain⟨x,dx,rfl,_⟩:=h
  rfl
 .obtain⟨x,dx,rfl,hx,k⟩:=h;have cl:=T.cl;refine⟨_,(ae (bp (pv 0) al rfl) (ae (bp (pv 0) al rfl) (ae (bp (pv 0) al rfl) (ai (bp (pv 0) (aw af) rfl))))),?_⟩;walk_at"prep";walk_at"rd";refine⟨_,_,_,_,rfl,hx,cl,T.n_wrong_line,lb rfl,?_⟩;walk_at"rd";refine⟨_,_,_,_,rfl,ac,cl,T.n_sender,lb rfl,?_⟩;walk_at"rd";refine⟨_,_,_,_,rfl,ac,cl,T.n_receiver,lb rfl,?_⟩;rw[bH,bH];walk_at"rd";refine⟨zero_le _,λea hea=>?_⟩;have ne:x≠ea:=λe=>by rw[<- e,ac]at hea;cases hea
  walk_at"rd";refine⟨_,_,_,_,rfl,(by rw[ah ne];exact ac),cl,T.n_entries,lb rfl,?_⟩;have hea0:H ea=none:=by rw[ah (Ne.symm ne)]at hea;exact hea
  refine k _ ea hea0 ac (by rw[ah (Ne.symm ne)];exact ac) λb o hb nb=>?_;rw[ah nb,ah (aj hb hea0),ah nb];exact hb
inductive AK (K:PySem.W.Frag)(CR CE:Addr)(vs:List V)(H:Hp)(Q:VK)(E:XK):Prop
 |mk (ta:Addr)(ns:List Int)(_:vs=[.ref ta])(_:aR K H ta (ns.map V.int))(_:ns.length<=2000)(_:∀(H':Hp) (ra ea:Addr) (es:List (Addr×Addr)),au H H'->H ra=none->H ea=none->(∀e∈es,H e.1=none/\H e.2=none)->kO CR CE H' ra ea (fF ns).1 (fF ns).2.1 (fF ns).2.2.1 es (fF ns).2.2.2->Q (.ref ra) H')
structure Hl (K:PySem.W.Frag)(mg:Str->Option Value)(CR CE fp fw fl fR:Addr)(fdp fdw fdl fdR:FuncData):Prop where
 f_parts_between:dC K mg "parts_between" du ["numbers","mark"] fp fdp
 f_words_of:dC K mg "words_of" iT ["line"] fw fdw
 f_take_line:dC K mg "take_line" gX ["reading","place","words"] fl fdl
 g_LINE_END:∃t,mg "LINE_END"=some (.int 10 t)
 n_enumerate:mg "enumerate"=none
 n_len:mg "len"=none
 tR:GV K CR
 cR:zn K mg "Reading" CR fR
 fR:fX K "__init__" "Reading.__init__" cA fR fdR
 bR:dm K fdR ["self"] []
theorem kO.wrong {CR CE:Addr}{H:Hp}{ra ea:Addr}{wl sd rc:Int}{es:List (Addr×Addr)}{xs:List i3}(R:kO CR CE H ra ea wl sd rc es xs){dx:Addr}(v:Int):kO CR CE (upd H ra (.ins CR dx (Ey v sd rc ea))) ra ea v sd rc es xs:=by
 obtain⟨⟨dx1,h1⟩,h2,h3,h4⟩:=R;have nre:ra≠ea:=aP h1 h2 (by intro z;cases z);refine⟨⟨dx,ac⟩,by rw[ah (Ne.symm nre)];exact h2,aK h3 λe he x ⟨d,q1,q2⟩=>⟨d,?_,?_⟩,h4⟩
 .rw[ah (h4 e he).1];exact q1
 .show upd _ _ _ _=_;rw[ah (aP q2 h1 (by intro z;cases z))];exact q2
theorem sD {f CR CE fp fw fl fR:Addr}{fd fdp fdw fdl fdR:FuncData}(F:fX K "read_text" "read_text" jG f fd)(T:Hl K mg CR CE fp fw fl fR fdp fdw fdl fdR)
  (G_parts_between:aG P w K mg base bO 1 fp fdp ["numbers","mark"] (nW K)) (G_words_of:aG P w K mg base bO 2 fw fdw ["line"] (sw K)) (G_take_line:aG P w K mg base bO 4 fl fdl ["reading","place","words"] (vV K CR CE)) :
  aG P w K mg base bO 5 f fd ["text"] (AK K CR CE):=by
 have G_Reading___init__:aG P w K mg base bO 1 fR fdR ["self"] (o0 CR):=nE T.fR T.tR;refine F.ok eJ (λvs H Q E h=>?_) (λcdv A outer s H vs Q E hr h=>?_)
 .obtain⟨ta,ns,rfl,_⟩:=h
  rfl
 .obtain⟨ta,ns,rfl,hs,hlen,k⟩:=h;have cl:=T.tR.cl;refine⟨_,(ae (aq (i:=1) eJ.nd rfl (Or.inl rfl) (Am T.cR T.bR G_Reading___init__ (hr.mono (by decide)))) (ae (aq (i:=2) eJ.nd rfl (Or.inl rfl) (bG T.f_parts_between G_parts_between (hr.mono (by decide)) (ab (pv 0) (ab (aS T.g_LINE_END) af)))) (ae (ci PassesOwn.never rfl (AE rfl T.n_enumerate (ab (pv 2) af)) (zE rfl (kZ (aQ (i:=3) eJ.nd rfl (Or.inl rfl)) (kZ (aQ (i:=4) eJ.nd rfl (Or.inl rfl)) wP))) (ai (bg (dF (d4 (bG T.f_take_line G_take_line (hr.mono (by decide)) (ab (pv 1) (ab (pv 3) (ab (bG T.f_words_of G_words_of (hr.mono (by decide)) (ab (pv 4) af)) af)))))) (ae (bp (pv 1) (pv 3) rfl) (ai (ao (pv 1)))) aE))) (ae (bg (ay dH (aI ax (by rfl) T.n_len boot_len (ab (am (pv 1) rfl) af)) al (aB _)) (ai (bp (pv 1) (aL cD (aI ax (by rfl) T.n_len boot_len (ab (pv 2) af)) al) rfl)) aE) (ai (ao (pv 1))))))),?_⟩;walk_at"prep";walk_at"rd";intro ra dr hra0 hdr0 ndr;refine⟨ra,dr,rfl,ac,λH1 ea hea0 hra1 hea1 keep1=>⟨rfl,?_⟩⟩;have nra:ea≠ra:=λe=>by rw[e,ac]at hea0;cases hea0
  have hea00:H ea=none:=by
   rw[ah nra]at hea0;by_cases h:ea=dr
   .rw[h];exact hdr0
   .rw[ah h]at hea0;exact hea0
  have s1:au H H1:=λb o hb=>keep1 b o (by rw[ah (aj hb hra0),ah (aj hb hdr0)];exact hb) (aj hb hra0);walk_at"rd";refine⟨ta,ns,10,rfl,s1.seq hs,hlen,λH2 la as s2 hla0 hla2 has hpr=>?_⟩;have nla:la≠ea:=Ne.symm (aj hea1 hla0);have nlra:la≠ra:=Ne.symm (aj hra1 hla0);have nas:∀a∈as,a≠ea/\a≠ra:=λa ha=>⟨Ne.symm (aj hea1 (has a ha).1),Ne.symm (aj hra1 (has a ha).1)⟩
  have hal:as.length=(bh 10 ns).length:=PySem.Paired.length hpr;have hpl:=iY 10 ns;walk_at"rd";refine⟨la,_,rfl,aR.of hla2,?_⟩;have s12:au H H2:=s1.trans s2;refine sg (J:=CF K la) (n:=as.length) (λi σ H'=>∃(z3 z4:Option V) (sd rc:Int) (es:List (Addr×Addr)) (xs:List i3),σ=[some (.ref ta),some (.ref ra),some (.ref la),z3,z4]/\au H H'/\H' la=some (.lst (as.map V.ref))/\Paired (LI H') as (bh 10 ns)/\ kO CR CE H' ra ea 0 sd rc es xs/\(∀e∈es,H e.1=none/\H e.2=none)/\es.length<=i/\aW 1 0 0 [] (bh 10 ns)=aW ((i:Int)+1) sd rc xs ((bh 10 ns).drop i))
   ⟨none,none,0,0,[],[],rfl,s12,hla2,hpr,⟨⟨dr,s2 _ _ hra1⟩,s2 _ _ hea1,.nil,λ_ h=>by cases h⟩,(λ_ h=>by cases h),Nat.le_refl _,rfl⟩
   (λσ H' ⟨_,_,_,_,_,_,_,_,h,_⟩=>⟨_,aR.of h,by rw[length_map];exact Nat.le_refl _⟩)
   (λi σ H' hi ⟨_,_,_,_,_,_,_,_,h,_⟩=>⟨_,.ref as[i],aR.of h,by rw[getElem?_map,List.getElem?_eq_getElem hi];rfl⟩) ?_ ?_
  .rintro i σ H3 y H4 hi ⟨z3,z4,sd,rc,es,xs,rfl,s3,hla3,hpr3,R,hes,hel,eq⟩ ⟨Tn,x,rfl,hTn,rfl,hx⟩;obtain⟨a,ha,rfl⟩:=bb (hx _ (aR.of hla3));obtain⟨ln,hln,hla⟩:=dj hpr3 ha;have hTn0:H Tn=none:=s3.none_of hTn;have sT:au H3 (upd H3 Tn (.tup [.int ((i:Int)+1),.ref a])):=(au.refl H3).upd_new hTn;rw[g0 hln]at eq;have lnl:ln.length<=2000:=le_trans (ng 10 ns ln (mem_of_getElem? hln)) hlen;refine⟨Tn,_,rfl,eB.of ac,rfl,_,_,rfl,?_⟩;refine⟨_,_,rfl,rfl,?_⟩;walk_at"rd";refine⟨a,ln,rfl,aR.of (sT _ _ hla),lnl,λH5 wa ws s5 hwa0 hwa5 hws hwp=>?_⟩;have s35:au H3 H5:=sT.trans s5;walk_at"rd";have hwl:=vW ln;refine⟨ra,ea,wa,(i:Int)+1,sd,rc,es,xs,bo ln,rfl,R.same s35,by omega,⟨ws,hwa5,hwp,λw hw=>yE hw,by omega⟩,λH6 es' but hes' hel' R'=>?_⟩;obtain⟨⟨dx3,hra3⟩,hea3,_,_⟩:=id R;have s6:au H H6:=λb o hb=>but b o (s35 b o (s3 b o hb)) (aj hb hra0) (aj hb hea00);have hes6:∀e∈es',H e.1=none/\H e.2=none:=λe he=>(hes' e he).elim (hes e) λq=>⟨(s3.trans s35).none_of q.1,(s3.trans s35).none_of q.2⟩
   refine⟨_,rfl,?_⟩;have step:aW ((i:Int)+1) sd rc xs (ln::(bh 10 ns).drop (i+1))=if (bD sd rc xs ((i:Int)+1) (bo ln)).1=true then aW ((i:Int)+1+1) (bD sd rc xs ((i:Int)+1) (bo ln)).2.1 (bD sd rc xs ((i:Int)+1) (bo ln)).2.2.1 (bD sd rc xs ((i:Int)+1) (bo ln)).2.2.2 ((bh 10 ns).drop (i+1))
    else((i:Int)+1,(bD sd rc xs ((i:Int)+1) (bo ln)).2):=rfl
   rw[step]at eq;cases hb:(bD sd rc xs ((i:Int)+1) (bo ln)).1 with
   |true=>
    rw[hb,if_pos rfl]at eq;walk_at"rd";refine⟨_,_,_,_,es',_,rfl,s6,but _ _ (s35 _ _ hla3) nlra nla,aK hpr3 (λb hb' c hc=>but _ _ (s35 _ _ hc) (nas b hb').2 (nas b hb').1),R',hes6,by omega,?_⟩;rw[eq]
    rfl
   |false=>
    rw[hb,if_neg (by decide)]at eq;obtain⟨⟨dx6,hra6⟩,_,_,_⟩:=id R';walk_at"rd";refine⟨_,_,_,_,rfl,hra6,cl,T.tR.n_wrong_line,lb rfl,?_⟩;walk_at"rd";have er:fF ns=((i:Int)+1,(bD sd rc xs ((i:Int)+1) (bo ln)).2):=by unfold fF;rw[eq,if_neg (λq=>by have:=q.1;simp only at this;omega)]
    rw[er]at k;exact k _ ra ea es' (s6.upd_new hra0) hra0 hea00 hes6 (R'.wrong _)
  .rintro σ H3 ⟨z3,z4,sd,rc,es,xs,rfl,s3,hla3,hpr3,R,hes,hel,eq⟩;obtain⟨⟨dx3,hra3⟩,hea3,hents,_⟩:=id R;rw[hal,List.drop_length]at eq;have eq':aW 1 0 0 [] (bh 10 ns)=(0,sd,rc,xs):=eq;have hxl:es.length=xs.length:=PySem.Paired.length hents;walk_at"rd";refine⟨_,_,_,_,_,rfl,hra3,cl,T.tR.n_entries,rfl,?_⟩;walk_at"rd";rw[length_map];refine aY (λh1=>?_) (λh1=>?_)
   .walk_at"rd";rw[length_map];refine⟨_,_,_,_,rfl,hra3,cl,T.tR.n_wrong_line,lb rfl,?_⟩;walk_at"rd";have hx0:xs=[]:=List.length_eq_zero_iff.mp (by omega);have er:fF ns=(((bh 10 ns).length:Int)+1,sd,rc,xs):=by unfold fF;rw[eq',if_pos ⟨rfl,hx0⟩]
    rw[er]at k;rw[hal];exact k _ ra ea es (s3.upd_new hra0) hra0 hea00 hes (R.wrong _)
   .walk_at"rd";have er:fF ns=(0,sd,rc,xs):=by unfold fF;rw[eq',if_neg (λq=>h1 (by have:xs=[]:=q.2;rw[hxl,this];rfl))]
    rw[er]at k;exact k _ ra ea es s3 hra0 hea00 hes R
def zo (kg pc ml:Int):List (Str×V):=[("kilogram",.int kg),("piece",.int pc),("mile",.int ml)]
def fu (C:Addr)(H:Hp)(a:Addr)(r:Int×Int×Int):Prop:=∃dx,H a=some (.ins C dx (zo r.1 r.2.1 r.2.2))
def kP (r:Int×Int×Int):Prop:=(0<=r.1/\r.1<=1000000)/\(0<=r.2.1/\r.2.1<=1000000)/\0<=r.2.2/\r.2.2<=1000000
structure FN (K:PySem.W.Frag)(C:Addr):Prop where
 cl:lS K C
 n_kilogram:aN K C "kilogram"
 n_piece:aN K C "piece"
 n_mile:aN K C "mile"
def nX (n d:Int)(H:Hp)(Q:VK):Prop:=∀p,H p=none->Q (.ref p) (upd H p (.tup [.int n,.int d]))
inductive AL (K:PySem.W.Frag)(C:Addr)(vs:List V)(H:Hp)(Q:VK)(E:XK):Prop
 |mk (na ra:Addr)(g s p:Int)(r:Int×Int×Int)(_:vs=[.ref na,.ref ra])(_:LI H na [g,s,p])(_:fu C H ra r)(_:kP r)(_:(0<=g/\g<=999999999))(_:(1<=s/\s<=999999))(_:(0<=p/\p<=999999))(_:nX (g*r.1*s+p*g*r.2.1*1000) (1000*s) H Q)
theorem CG {f C:Addr}{fd:FuncData}(F:fX K "dues" "dues" sk f fd)(g_k:∃t,mg "GRAMS_IN_KILOGRAM"=some (.int 1000 t))(T:FN K C):aG P w K mg base bO 1 f fd ["numbers","rates"] (AL K C):=by
 refine F.ok jY (λvs H Q E h=>?_) (λcdv A outer s H vs Q E hr h=>?_)
 .obtain⟨_,_,_,_,_,_,rfl,_⟩:=h
  rfl
 .obtain⟨na,ra,g,sm,p,r,rfl,hl,⟨dx,hra⟩,⟨hr1,hr2,hr3⟩,hg,hs,hp,k⟩:=h;have cl:=T.cl;refine⟨_,(ae (aq (i:=2) jY.nd rfl (Or.inl rfl) (bf aJ (pv 0) al (λ_ _=>rfl))) (ae (aq (i:=3) jY.nd rfl (Or.inl rfl) (bf aJ (pv 0) al (λ_ _=>rfl))) (ae (aq (i:=4) jY.nd rfl (Or.inl rfl) (bf aJ (pv 0) al (λ_ _=>rfl))) (ae (aq (i:=5) jY.nd rfl (Or.inl rfl) (aL d6 (aL d6 (pv 2) (am (pv 1) rfl)) (pv 3))) (ae (aq (i:=6) jY.nd rfl (Or.inl rfl) (aL d6 (aL d6 (aL d6 (pv 4) (pv 2)) (am (pv 1) rfl)) (aS g_k))) (ai (ao (oM (ab (aL cD (pv 5) (pv 6)) (ab (aL d6 (aS g_k) (pv 3)) af)))))))))),?_⟩;walk_at"prep";walk_at"rd";refine bw (aR.of hl) (aO (j:=0) rfl) ?_;walk_at"rd";refine bw (aR.of hl) (aO (j:=1) rfl) ?_;walk_at"rd";refine bw (aR.of hl) (aO (j:=2) rfl) ?_;walk_at"rd";refine⟨_,_,_,_,_,rfl,hra,cl,T.n_kilogram,rfl,?_⟩;refine gF (.inr ⟨by omega,by omega⟩) ?_;walk_at"rd";refine gF (.inr ⟨by omega,by omega⟩) ?_;walk_at"rd";refine gF (.inr ⟨by omega,by omega⟩) ?_;walk_at"rd";refine⟨_,_,_,_,_,rfl,hra,cl,T.n_piece,rfl,?_⟩;refine gF (.inr ⟨by omega,by omega⟩) ?_;walk_at"rd";refine gF (.inr ⟨by decide,by decide⟩) ?_;walk_at"rd";refine gF (.inr ⟨by omega,by omega⟩) ?_;walk_at"rd";exact⟨(by show 2<=sizeLine;decide),k⟩
inductive qP (K:PySem.W.Frag)(C:Addr)(vs:List V)(H:Hp)(Q:VK)(E:XK):Prop
 |mk (na ra:Addr)(m g:Int)(r:Int×Int×Int)(_:vs=[.ref na,.ref ra])(_:LI H na [m,g])(_:fu C H ra r)(_:kP r)(_:(0<=m/\m<=99999))(_:(0<=g/\g<=999999999))(_:nX (m*g*r.2.2) (1000*1000000) H Q)
theorem vX {f C:Addr}{fd:FuncData}(F:fX K "transit" "transit" jZ f fd)(g_k:∃t,mg "GRAMS_IN_KILOGRAM"=some (.int 1000 t))(g_m:∃t,mg "MILLION"=some (.int 1000000 t))(T:FN K C):aG P w K mg base bO 1 f fd ["numbers","rates"] (qP K C):=by
 refine F.ok kL (λvs H Q E h=>?_) (λcdv A outer s H vs Q E hr h=>?_)
 .obtain⟨_,_,_,_,_,rfl,_⟩:=h
  rfl
 .obtain⟨na,ra,m,g,r,rfl,hl,⟨dx,hra⟩,⟨hr1,hr2,hr3⟩,hm,hg,k⟩:=h;have cl:=T.cl;refine⟨_,(ae (aq (i:=2) kL.nd rfl (Or.inl rfl) (bf aJ (pv 0) al (λ_ _=>rfl))) (ae (aq (i:=3) kL.nd rfl (Or.inl rfl) (bf aJ (pv 0) al (λ_ _=>rfl))) (ai (ao (oM (ab (aL d6 (aL d6 (pv 2) (pv 3)) (am (pv 1) rfl)) (ab (aL d6 (aS g_k) (aS g_m)) af))))))),?_⟩;walk_at"prep";walk_at"rd";refine bw (aR.of hl) (aO (j:=0) rfl) ?_;walk_at"rd";refine bw (aR.of hl) (aO (j:=1) rfl) ?_;walk_at"rd";refine gF (.inr ⟨by omega,by omega⟩) ?_;walk_at"rd";refine⟨_,_,_,_,_,rfl,hra,cl,T.n_mile,rfl,?_⟩;refine gF (.inr ⟨by omega,by omega⟩) ?_;walk_at"rd";refine gF (.inr ⟨by decide,by decide⟩) ?_;walk_at"rd";exact⟨(by show 2<=sizeLine;decide),k⟩
def sE (H:Hp)(ma:Addr)(rt:Int->Option Int):Prop:=∃kvs:List (cT×V),H ma=some (.dK kvs)/\∀k:Int,cS kvs (.inl k)=(rt k).map V.int
inductive uI (K:PySem.W.Frag)(vs:List V)(H:Hp)(Q:VK)(E:XK):Prop
 |mk (na ma:Addr)(m a r:Int)(rt:Int->Option Int)(_:vs=[.ref na,.ref ma])(_:LI H na [m,a])(_:sE H ma rt)(_:rt m=some r)(_:(0<=a/\a<=999999999))(_:nX (a*r) 1000000 H Q)
theorem yF {f:Addr}{fd:FuncData}(F:fX K "orders" "orders" lw f fd)(g_m:∃t,mg "MILLION"=some (.int 1000000 t)):aG P w K mg base bO 1 f fd ["numbers","moneys"] (uI K):=by
 refine F.ok mq (λvs H Q E h=>?_) (λcdv A outer s H vs Q E hr h=>?_)
 .obtain⟨_,_,_,_,_,_,rfl,_⟩:=h
  rfl
 .obtain⟨na,ma,m,a,r,rt,rfl,hl,⟨kvs,hma,hv⟩,hm,ha,k⟩:=h;have hu:=kq hr;refine⟨_,(ae (aq (i:=2) mq.nd rfl (Or.inl rfl) (bf aJ (pv 0) al (λ_ _=>rfl))) (ae (aq (i:=3) mq.nd rfl (Or.inl rfl) (bf aJ (pv 0) al (λ_ _=>rfl))) (ai (ao (oM (ab (aL d6 (pv 3) (dS hu (pv 1) (pv 2) (λ_ _=>rfl))) (ab (aS g_m) af))))))),?_⟩;walk_at"prep";walk_at"rd";refine bw (aR.of hl) (aO (j:=0) rfl) ?_;walk_at"rd";refine bw (aR.of hl) (aO (j:=1) rfl) ?_;walk_at"rd";refine⟨_,rfl,_,rfl,ma,.int r,rfl,?_,?_⟩
  .have q:dq H ma (V.int m) (cS kvs (.inl m)):=dq.k (k:=Sum.inl m) hma;rw[hv m,hm]at q;exact q
  .refine gF (.inl ⟨by omega,by omega⟩) ?_;walk_at"rd";exact⟨(by show 2<=sizeLine;decide),k⟩
inductive d8:i3->Prop
 |dues (g s p:Int):(0<=g/\g<=999999999)->(1<=s/\s<=999999)->(0<=p/\p<=999999)->d8 ("DUES",[g,s,p])
 |transit (m g:Int):(0<=m/\m<=99999)->(0<=g/\g<=999999999)->d8 ("TRANSIT",[m,g])
 |orders (m a:Int):(1<=m/\m<=9)->(1<=a/\a<=999999999)->d8 ("ORDERS",[m,a])
def qQ (l:List Int)(i:Nat):Int:=l.getD i 0
def eR (r:Int×Int×Int)(rt:Int->Option Int)(x:i3):Int×Int:=if x.1 = "DUES" then(qQ x.2 0*r.1*qQ x.2 1+qQ x.2 2*qQ x.2 0*r.2.1*1000,1000*qQ x.2 1)
 else if x.1 = "TRANSIT" then(qQ x.2 0*qQ x.2 1*r.2.2,1000*1000000)
 else(qQ x.2 1*(rt (qQ x.2 0)).getD 0,1000000)
def fz (rt:Int->Option Int)(x:i3):Prop:=x.1 = "ORDERS"->(rt (qQ x.2 0)).isSome=true
inductive xx (K:PySem.W.Frag)(C CE:Addr)(vs:List V)(H:Hp)(Q:VK)(E:XK):Prop
 |mk (e:Addr×Addr)(ra ma:Addr)(x:i3)(r:Int×Int×Int)(rt:Int->Option Int)(_:vs=[.ref e.1,.ref ra,.ref ma])(_:oZ CE H e x)(_:d8 x)(_:fu C H ra r)(_:kP r)(_:sE H ma rt)(_:fz rt x)(_:nX (eR r rt x).1 (eR r rt x).2 H Q)
structure GD (K:PySem.W.Frag)(mg:Str->Option Value)(C CE f1 f2 f3:Addr)(fd1 fd2 fd3:FuncData):Prop where
 f_dues:dC K mg "dues" sk ["numbers","rates"] f1 fd1
 f_transit:dC K mg "transit" jZ ["numbers","rates"] f2 fd2
 f_orders:dC K mg "orders" lw ["numbers","moneys"] f3 fd3
 g_k:∃t,mg "GRAMS_IN_KILOGRAM"=some (.int 1000 t)
 g_m:∃t,mg "MILLION"=some (.int 1000000 t)
 tR:FN K C
 tE:GC K CE
theorem uJ {f C CE f1 f2 f3:Addr}{fd fd1 fd2 fd3:FuncData}(F:fX K "worth_of" "worth_of" iR f fd)(T:GD K mg C CE f1 f2 f3 fd1 fd2 fd3):aG P w K mg base bO 2 f fd ["entry","rates","moneys"] (xx K C CE):=by
 have G_dues:aG P w K mg base bO 1 f1 fd1 ["numbers","rates"] (AL K C):=CG T.f_dues.fn T.g_k T.tR;have G_transit:aG P w K mg base bO 1 f2 fd2 ["numbers","rates"] (qP K C):=vX T.f_transit.fn T.g_k T.g_m T.tR;have G_orders:aG P w K mg base bO 1 f3 fd3 ["numbers","moneys"] (uI K):=yF T.f_orders.fn T.g_m;refine F.ok uz (λvs H Q E h=>?_) (λcdv A outer s H vs Q E hr h=>?_)
 .obtain⟨_,_,_,_,_,_,rfl,_⟩:=h
  rfl
 .obtain⟨e,ra,ma,x,r,rt,rfl,⟨dx,he,hl⟩,ok,hra,hro,hma,hrt,k⟩:=h;have cl:=T.tE.cl;have n1:=T.tE.n_name;have n2:=T.tE.n_numbers;refine⟨_,(ae (bg (ay dH (am (pv 0) rfl) iJ (aB _)) (ai (ao (bG T.f_dues G_dues hr (ab (am (pv 0) rfl) (ab (pv 1) af))))) aE) (ae (bg (ay dH (am (pv 0) rfl) iJ (aB _)) (ai (ao (bG T.f_transit G_transit hr (ab (am (pv 0) rfl) (ab (pv 1) af))))) aE) (ai (ao (bG T.f_orders G_orders hr (ab (am (pv 0) rfl) (ab (pv 2) af))))))),?_⟩;walk_at"prep";walk_at"rd";refine⟨_,_,_,_,_,rfl,he,cl,n1,rfl,?_⟩;walk_at"rd";refine aY (λh1=>?_) (λh1=>?_)
  .walk_at"rd";refine⟨_,_,_,_,_,rfl,he,cl,n2,rfl,?_⟩;walk_at"rd";cases ok with
   |dues g s p hg hs hp=>exact⟨e.2,ra,g,s,p,r,rfl,hl,hra,hro,hg,hs,hp,k⟩
   |transit m g hm hg=>exact absurd (show("TRANSIT":Str) = "DUES" from h1) (by decide +kernel)
   |orders m a hm ha=>exact absurd (show("ORDERS":Str) = "DUES" from h1) (by decide +kernel)
  .walk_at"rd";refine⟨_,_,_,_,_,rfl,he,cl,n1,rfl,?_⟩;walk_at"rd";refine aY (λh2=>?_) (λh2=>?_)
   .walk_at"rd";refine⟨_,_,_,_,_,rfl,he,cl,n2,rfl,?_⟩;walk_at"rd";cases ok with
    |dues g s p hg hs hp=>exact absurd rfl h1
    |transit m g hm hg=>exact⟨e.2,ra,m,g,r,rfl,hl,hra,hro,hm,hg,k⟩
    |orders m a hm ha=>exact absurd (show("ORDERS":Str) = "TRANSIT" from h2) (by decide +kernel)
   .walk_at"rd";refine⟨_,_,_,_,_,rfl,he,cl,n2,rfl,?_⟩;walk_at"rd";cases ok with
    |dues g s p hg hs hp=>exact absurd rfl h1
    |transit m g hm hg=>exact absurd rfl h2
    |orders m a hm ha=>
     have q:(rt m).isSome=true:=hrt rfl;cases er:rt m with
     |none=>rw[er]at q;cases q
     |some z=>
      refine⟨e.2,ma,m,a,z,rt,rfl,hl,hma,er,⟨by omega,ha.2⟩,?_⟩;have ew:eR r rt ("ORDERS",[m,a])=(a*z,1000000):=by show(a*(rt m).getD 0,(1000000:Int))=_;rw[er];rfl
      rw[ew]at k;exact k
def ge (a:Int×Int)(b:Int×Int):Int×Int:=(a.1*b.2+b.1*a.2,a.2*b.2)
def gG (r:Int×Int×Int)(rt:Int->Option Int)(xs:List i3):Int×Int:=xs.foldl (λa x=>ge a (eR r rt x)) (0,1)
def bA:Nat->Int
 |0=>1267650600228229401496703205376
 |n+1=>bA n*4294967296
def bB:Nat->Int
 |0=>1
 |n+1=>bB n*1073741824
theorem qR:∀n,1<=bB n/\bB n*1267650600228229401496703205376<=bA n
 |0=>⟨by decide,by decide⟩
 |n+1=>by obtain⟨h1,h2⟩:=qR n;unfold bA bB;omega
theorem xy:∀{n m:Nat},n<=m->bA n<=bA m:=by
 intro n m h
 induction h with
 |refl=>exact Int.le_refl _
 |step _ ih=>
  rename_i m _;have:=(qR m)
  show bA n<=bA m*4294967296;omega
theorem yG {n:Nat}{a b c d:Int}(ha:0<=a/\a<=bA n)(hb:1<=b/\b<=bB n)(hc:0<=c/\c<=1267650600228229401496703205376)(hd:1<=d/\d<=1073741824):(0<=a*d+c*b/\a*d+c*b<=bA (n+1))/\1<=b*d/\b*d<=bB (n+1):=by have e1:a*d<=bA n*1073741824:=Int.mul_le_mul ha.2 hd.2 (by omega) (by omega);have e2:c*b<=1267650600228229401496703205376*bB n:=Int.mul_le_mul hc.2 hb.2 (by omega) (by omega);have e3:0<=a*d:=Int.mul_nonneg ha.1 (by omega);have e4:0<=c*b:=Int.mul_nonneg hc.1 (by omega);have e5:b*d<=bB n*1073741824:=Int.mul_le_mul hb.2 hd.2 (by omega) (by have:=(qR n).1;omega);have e6:1*1<=b*d:=Int.mul_le_mul hb.1 hd.1 (by omega) (by omega);have h:=qR n;unfold bA bB;omega
theorem nY {a b c A B C:Int}(ha:0<=a/\a<=A)(hb:0<=b/\b<=B)(hc:0<=c/\c<=C):0<=a*b*c/\a*b*c<=A*B*C:=by have e1:0<=a*b:=Int.mul_nonneg ha.1 hb.1;have e2:a*b<=A*B:=Int.mul_le_mul ha.2 hb.2 hb.1 (by omega);exact⟨Int.mul_nonneg e1 hc.1,Int.mul_le_mul e2 hc.2 hc.1 (by omega)⟩
theorem nh {r:Int×Int×Int}{rt:Int->Option Int}{x:i3}(hr:kP r)(ht:∀k z,rt k=some z->0<=z/\z<=100000000)(ok:d8 x) :
  (0<=(eR r rt x).1/\(eR r rt x).1<=1267650600228229401496703205376)/\1<=(eR r rt x).2/\(eR r rt x).2<=1073741824:=by
 obtain⟨h1,h2,h3⟩:=hr;cases ok with
 |dues g s p hg hs hp=>
  show(0<=g*r.1*s+p*g*r.2.1*1000/\g*r.1*s+p*g*r.2.1*1000<=_)/\1<=1000*s/\1000*s<=_;have q1:=nY hg h1 ⟨by omega,hs.2⟩;have q2:=nY hp hg h2;omega
 |transit m g hm hg=>
  show(0<=m*g*r.2.2/\m*g*r.2.2<=_)/\(1:Int)<=1000*1000000/\(1000*1000000:Int)<=_;have q1:=nY hm hg h3;omega
 |orders m a hm ha=>
  show(0<=a*(rt m).getD 0/\a*(rt m).getD 0<=_)/\(1:Int)<=1000000/\(1000000:Int)<=_;have q:0<=(rt m).getD 0/\(rt m).getD 0<=100000000:=by
   cases e:rt m with
   |none=>exact⟨by decide,by decide⟩
   |some z=>exact ht m z e
  have q1:=nY (a:=a) (b:=(rt m).getD 0) (c:=1) (A:=999999999) (B:=100000000) (C:=1) ⟨by omega,ha.2⟩ q ⟨by decide,by decide⟩;omega
theorem qS {r:Int×Int×Int}{rt:Int->Option Int}(hr:kP r)(ht:∀k z,rt k=some z->0<=z/\z<=100000000):∀(n:Nat) (xs:List i3),xs.length=n->(∀x∈xs,d8 x)->(0<=(gG r rt xs).1/\(gG r rt xs).1<=bA n)/\1<=(gG r rt xs).2/\(gG r rt xs).2<=bB n
 |0,xs,hl,_=>by
  have e:xs=[]:=List.length_eq_zero_iff.mp hl;subst e;show((0:Int)<=0/\(0:Int)<=bA 0)/\(1:Int)<=1/\(1:Int)<=bB 0
  decide
 |n+1,xs,hl,hx=>by
  obtain⟨ys,y,rfl⟩:∃ys y,xs=ys++[y]:=by
   have hne:xs≠[]:=by intro e;rw[e]at hl;cases hl
   exact⟨xs.dropLast,xs.getLast hne,(List.dropLast_concat_getLast hne).symm⟩
  have hl':ys.length=n:=by rw[length_append]at hl;exact Nat.succ.inj hl
  obtain⟨i1,i2⟩:=qS hr ht n ys hl' λx h=>hx x (mem_append_left _ h);obtain⟨w1,w2⟩:=nh hr ht (hx y (mem_append_right _ (mem_singleton.mpr rfl)));have e:gG r rt (ys++[y])=ge (gG r rt ys) (eR r rt y):=by unfold gG;rw[foldl_append];rfl
  rw[e];exact yG i1 i2 w1 w2
inductive AM (K:PySem.W.Frag)(C CE:Addr)(vs:List V)(H:Hp)(Q:VK)(E:XK):Prop
 |mk (el ra ma:Addr)(es:List (Addr×Addr))(xs:List i3)(r:Int×Int×Int)(rt:Int->Option Int)(_:vs=[.ref el,.ref ra,.ref ma])(_:H el=some (.lst (es.map λe=>.ref e.1)))(_:Paired (oZ CE H) es xs)(_:(∀x∈xs,d8 x/\fz rt x))(_:xs.length<=10)(_:fu C H ra r)(_:kP r)(_:sE H ma rt)(_:(∀k z,rt k=some z->0<=z/\z<=100000000))(_:∀H',au H H'->Q (.int ((gG r rt xs).1 / (gG r rt xs).2)) H')
theorem sF {z B:Int}(h0:0<=z)(h:z<=B)(hB:B<2^1999):z.natAbs<big:=by
 have e:(z.natAbs:Int)=z:=Int.natAbs_of_nonneg h0;have h2:(2:Int)^1999<((2^2000:Nat):Int):=by rw[show(2:Int)^1999=((2^1999:Nat):Int)from(Int.natCast_pow 2 1999).symm];exact Int.ofNat_lt.mpr (Nat.pow_lt_pow_right (by decide) (by decide))
 have h3:(z.natAbs:Int)<((2^2000:Nat):Int):=by rw[e];exact Int.lt_of_le_of_lt h (Int.lt_trans hB h2)
 exact Int.ofNat_lt.mp h3
theorem DV:bA 10<2^1999:=by decide +kernel
theorem oZ.same {CE:Addr}{H H':Hp}(s:au H H'){e:Addr×Addr}{x:i3}(h:oZ CE H e x):oZ CE H' e x:=by obtain⟨d,q1,q2⟩:=h;exact⟨d,s _ _ q1,s _ _ q2⟩
theorem o6 {f C CE fw:Addr}{fd fdw:FuncData}(F:fX K "full_figure" "full_figure" ic f fd)(T:dC K mg "worth_of" iR ["entry","rates","moneys"] fw fdw)(G_worth_of:aG P w K mg base bO 2 fw fdw ["entry","rates","moneys"] (xx K C CE)) :
  aG P w K mg base bO 3 f fd ["entries","rates","moneys"] (AM K C CE):=by
 refine F.ok cz (λvs H Q E h=>?_) (λcdv A outer s H vs Q E hr h=>?_)
 .obtain⟨_,_,_,_,_,_,_,rfl,_⟩:=h
  rfl
 .obtain⟨el,ra,ma,es,xs,r,rt,rfl,hel,hents,hok,hxl,⟨dx,hra⟩,hro,⟨kvs,hma,hmv⟩,hrt,k⟩:=h;refine⟨_,(ae (aq (i:=3) cz.nd rfl (Or.inl rfl) al) (ae (aq (i:=4) cz.nd rfl (Or.inl rfl) al) (ae (ci PassesOwn.never rfl (bx (pv 0)) (aQ (i:=5) cz.nd rfl (Or.inl rfl)) (ae (aq (i:=6) cz.nd rfl (Or.inl rfl) (bG T G_worth_of hr (ab (pv 5) (ab (pv 1) (ab (pv 2) af))))) (ae (aq (i:=3) cz.nd rfl (Or.inl rfl) (aL cD (aL d6 (pv 3) (bf jv (pv 6) al (λ_ _=>rfl))) (aL Cq (bf jv (pv 6) al (λ_ _=>rfl)) (pv 4)))) (ai (aq (i:=4) cz.nd rfl (Or.inl rfl) (aL d6 (pv 4) (bf jv (pv 6) al (λ_ _=>rfl)))))))) (ai (ao (aL Ac (pv 3) (pv 4))))))),?_⟩;have hlen:es.length=xs.length:=PySem.Paired.length hents;have bnd:∀i,i<=xs.length->(0<=(gG r rt (xs.take i)).1/\(gG r rt (xs.take i)).1<=bA i)/\1<=(gG r rt (xs.take i)).2/\(gG r rt (xs.take i)).2<=bB i:=λi hi=>
   qS hro hrt i (xs.take i) (by rw[length_take];omega) λx hx=>(hok x (List.mem_of_mem_take hx)).1
  walk_at"prep";walk_at"rd";refine⟨el,rfl,⟨_,aR.of hel⟩,?_⟩;refine bX (K:=K) (a:=el) (xs:=es.map λe=>V.ref e.1) (λi σ H'=>au H H'/\∃z5 z6:Option V,σ=[some (.ref el),some (.ref ra),some (.ref ma),some (.int (gG r rt (xs.take i)).1),some (.int (gG r rt (xs.take i)).2),z5,z6])
   ⟨au.refl H,none,none,rfl⟩ (λi σ H' _ ⟨s1,_⟩=>aR.of (s1 _ _ hel)) ?_ ?_
  .rintro i y σ H' hi ⟨s1,z5,z6,rfl⟩;obtain⟨e,he,rfl⟩:=bb hi;obtain⟨x,hx,hex⟩:=dj hents he;have hi':i<xs.length:=(List.getElem?_eq_some_iff.mp hx).1;obtain⟨b1',b2'⟩:=bnd i (le_of_lt hi');obtain⟨w1,w2⟩:=nh hro hrt (hok x (mem_of_getElem? hx)).1;have step:gG r rt (xs.take (i+1))=ge (gG r rt (xs.take i)) (eR r rt x):=by rw[aT hx];unfold gG;rw[foldl_append];rfl
   walk_at"rd";refine⟨e,ra,ma,x,r,rt,rfl,hex.same s1,(hok x (mem_of_getElem? hx)).1,⟨dx,s1 _ _ hra⟩,hro,⟨kvs,s1 _ _ hma,hmv⟩,(hok x (mem_of_getElem? hx)).2,λp hp=>?_⟩;walk_at"rd";refine mR (eB.of ac) (aO (j:=1) rfl) ?_;refine gF (.inr ⟨by omega,by omega⟩) ?_;walk_at"rd";refine mR (eB.of ac) (aO (j:=0) rfl) ?_;walk_at"rd";have l1:=qR i;have m1:=xy (show i<=10 by omega);have m2:=DV;refine gF ⟨sF w1.1 w1.2 (by decide +kernel),sF (B:=bA 10) (by omega) (by omega) m2⟩ ?_;walk_at"rd";refine mR (eB.of ac) (aO (j:=1) rfl) ?_;refine gF (.inr ⟨by omega,by omega⟩) ?_;walk_at"rd";refine⟨s1.upd_new (s1.none_of hp),some (.ref e.1),some (.ref p),?_⟩;rw[step]
   rfl
  .rintro σ H' ⟨s1,z5,z6,rfl⟩;have ei:(es.map λe=>V.ref e.1).length=xs.length:=by rw[length_map,hlen]
   rw[ei,take_length];obtain⟨b1',b2'⟩:=bnd xs.length (Nat.le_refl _);rw[take_length]at b1' b2';walk_at"rd";have l1:=qR xs.length;have m1:=xy hxl;have m2:=DV;refine gF ⟨by omega,sF (B:=bA 10) (by omega) (by omega) m2⟩ ?_;exact k _ s1
def br (b:Bytes):List Int:=b.map λc=>(c.toNat:Int)
theorem xz:∀{a b:Bytes},br a=br b->a=b
 |[],[],_=>rfl
 |[],_::_,h=>by cases h
 |_::_,[],h=>by cases h
 |x::a,y::b,h=>by have h':(x.toNat:Int)::br a=(y.toNat:Int)::br b:=h;injection h' with h1 h2;have e:x=y:=UInt8.toNat_inj.mp (Int.ofNat.inj h1);rw[e,xz h2]
theorem o7 (m:UInt8):∀b:Bytes,bh (m.toNat:Int) (br b)=(partsOf m b).map br
 |[]=>rfl
 |c::r=>by
  have ih:=o7 m r;show(if (c.toNat:Int)=(m.toNat:Int)then[]::bh (m.toNat:Int) (br r)else match bh (m.toNat:Int) (br r)with|[]=>[[(c.toNat:Int)]]|p::l=>((c.toNat:Int)::p)::l)
   = ((if c=m then[]::partsOf m r else match partsOf m r with|[]=>[[c]]|p::l=>(c::p)::l):List Bytes).map br
  by_cases h:c=m
  .rw[if_pos h,if_pos (by rw[h]),ih];rfl
  .have hci:¬((c.toNat:Int)=(m.toNat:Int)):=λe=>h (UInt8.toNat_inj.mp (by omega));rw[if_neg h,if_neg hci,ih];cases partsOf m r with
   |nil=>rfl
   |cons p l=>rfl
theorem o8 (b:Bytes):bo (br b)=(Vbpoal.wordsOf b).map br:=by
 have e:bh 32 (br b)=(partsOf 32 b).map br:=o7 32 b;unfold bo Vbpoal.wordsOf;rw[e];generalize partsOf 32 b=l
 induction l with
 |nil=>rfl
 |cons p l ih=>
  cases p with
  |nil=>exact ih
  |cons c r=>
   show br (c::r)::((l.map br).filter λw=>!w.isEmpty)=br (c::r)::((l.filter λw=>!w.isEmpty).map br)
   rw[ih]
theorem o9:∀(b:Bytes) (n:Nat),b.all isDigit=true->(br b).foldl bu (some (n:Int))=some ((b.foldl (λn c=>10*n+(c.toNat-48)) n:Nat):Int)
 |[],_,_=>rfl
 |c::r,n,h=>by
  rw[List.all_cons,and_eq_true]at h;have hd:(decide (48<=c.toNat)&&decide (c.toNat<=57))=true:=h.1;rw[and_eq_true,decide_eq_true_eq,decide_eq_true_eq]at hd;have step:bu (some (n:Int)) (c.toNat:Int)=some ((10*n+(c.toNat-48):Nat):Int):=by
   show(if (c.toNat:Int)<48 then none else if 57<(c.toNat:Int)then none else some ((n:Int)*10+(c.toNat:Int)-48))=_;rw[if_neg (by omega),if_neg (by omega)]
   congr 1
   omega
  show(br r).foldl bu (bu (some (n:Int)) (c.toNat:Int))=_;rw[step];exact o9 r _ h.2
theorem qT:∀(b:Bytes) (a:Option Int),b.all isDigit=false->(br b).foldl bu a=none
 |[],_,h=>by cases h
 |c::r,a,h=>by
  show(br r).foldl bu (bu a (c.toNat:Int))=none;cases a with
  |none=>exact j0 _
  |some n=>
   by_cases hc:isDigit c=true
   .rw[List.all_cons,hc,Bool.true_and]at h;exact qT r _ h
   .have:bu (some n) (c.toNat:Int)=none:=by
     show(if (c.toNat:Int)<48 then none else if 57<(c.toNat:Int)then none else some (n*10+(c.toNat:Int)-48))=_;by_cases h1:(c.toNat:Int)<48
     .rw[if_pos h1]
     .by_cases h2:57<(c.toNat:Int)
      .rw[if_neg h1,if_pos h2]
      .exact absurd (show(decide (48<=c.toNat)&&decide (c.toNat<=57))=true by rw[and_eq_true,decide_eq_true_eq,decide_eq_true_eq];omega) hc
    rw[this];exact j0 _
def AN (b:Bytes):Option Nat:=match b with
 |[]=>none
 |c::r=>if (b.all isDigit&&decide (b.length<=9)&&(c != 48||r.isEmpty))=true then some (valueOf b)else none
theorem jL (lo hi:Nat)(b:Bytes):numberIn lo hi b=(AN b).bind λn=>if lo<=n/\n<=hi then some n else none:=by
 cases b with
 |nil=>rfl
 |cons c r=>
  show(if ((c::r).all isDigit&&decide ((c::r).length<=9)&&(c != 48||r.isEmpty))=true then(if lo<=valueOf (c::r)/\valueOf (c::r)<=hi then some (valueOf (c::r))else none)else none)
   = (if ((c::r).all isDigit&&decide ((c::r).length<=9)&&(c != 48||r.isEmpty))=true then some (valueOf (c::r))else none).bind _
  by_cases h:((c::r).all isDigit&&decide ((c::r).length<=9)&&(c != 48||r.isEmpty))=true
  .rw[if_pos h,if_pos h];rfl
  .rw[if_neg h,if_neg h];rfl
theorem AO (b:Bytes)(hne:b≠[]):dO (br b)=(AN b).map λ(n:Nat)=>(n:Int):=by
 cases b with
 |nil=>exact absurd rfl hne
 |cons c r=>
  have hl:(br (c::r)).length=(c::r).length:=length_map _;unfold dO;rw[hl];show _=(if ((c::r).all isDigit&&decide ((c::r).length<=9)&&(c != 48||r.isEmpty))=true then some (valueOf (c::r))else none).map _;by_cases h9:9<(c::r).length
  .rw[if_pos h9,if_neg (by rw[and_eq_true,and_eq_true,decide_eq_true_eq];omega)];rfl
  .rw[if_neg h9];have hh:(br (c::r)).head?=some (c.toNat:Int):=rfl;rw[hh];by_cases h0:c=48/\r≠[]
   .obtain⟨h1,h2⟩:=h0;have hr:r.isEmpty=false:=by cases r with|nil=>exact absurd rfl h2|cons _ _=>rfl
    rw[if_pos ⟨by rw[h1];rfl,by cases r with|nil=>exact absurd rfl h2|cons _ _=>(show 1<_+1+1);omega⟩];rw[if_neg (by rw[h1,hr];simp)];rfl
   .have hg:(c != 48||r.isEmpty)=true:=by
     by_cases hc:c=48
     .have:r=[]:=Classical.byContradiction λq=>h0 ⟨hc,q⟩;rw[this];simp
     .simp[hc]
    rw[if_neg (λq=>h0 ⟨UInt8.toNat_inj.mp (by have:=Option.some.inj q.1;show c.toNat=48;omega),λe=>by have:=q.2;rw[e]at this;exact absurd (show 1<1 from this) (by decide)⟩)];cases ha:(c::r).all isDigit with
    |true=>
     have hif:(true&&decide ((c::r).length<=9)&&(c != 48||r.isEmpty))=true:=by rw[hg,decide_eq_true (by omega)];rfl
     rw[if_pos hif];exact o9 (c::r) 0 ha
    |false=>
     rw[if_neg (by simp)];exact qT (c::r) _ ha
theorem uK (w:List Int)(ws:List (List Int))(lo hi:Int)(bs:List (Int×Int)):bc (w::ws) ((lo,hi)::bs)=(dO w).bind λn=>if lo<=n/\n<=hi then(bc ws bs).map (n::·)else none:=by
 show(match dO w with|none=>none|some n=>if n<lo then none else if hi<n then none else(bc ws bs).map (n::·))=_;cases dO w with
 |none=>rfl
 |some n=>
  show(if n<lo then none else if hi<n then none else(bc ws bs).map (n::·))=(if lo<=n/\n<=hi then(bc ws bs).map (n::·)else none);by_cases h1:n<lo
  .rw[if_pos h1,if_neg (by omega)]
  .by_cases h2:hi<n
   .rw[if_neg h1,if_pos h2,if_neg (by omega)]
   .rw[if_neg h1,if_neg h2,if_pos (by omega)]
theorem mz (w:Bytes)(hw:w≠[])(ws:List (List Int))(lo hi:Nat)(bs:List (Int×Int)):bc (br w::ws) (((lo:Int),(hi:Int))::bs)=(numberIn lo hi w).bind λn=>(bc ws bs).map ((n:Int)::·):=by
 rw[uK,AO w hw,jL];cases AN w with
 |none=>rfl
 |some n=>
  show(if (lo:Int)<=(n:Int)/\(n:Int)<=(hi:Int)then(bc ws bs).map ((n:Int)::·)else none)=(if lo<=n/\n<=hi then some n else none).bind λn=>(bc ws bs).map ((n:Int)::·);by_cases h:lo<=n/\n<=hi
  .rw[if_pos h,if_pos (by omega)];rfl
  .rw[if_neg h,if_neg (by omega)];rfl
def aM:Line->i3
 |.dues a b c=>("DUES",[(a:Int),(b:Int),(c:Int)])
 |.transit a b=>("TRANSIT",[(a:Int),(b:Int)])
 |.orders a b=>("ORDERS",[(a:Int),(b:Int)])
theorem vY:bq "DUES"=br (chars "DUES"):=by decide +kernel
theorem pZ:bq "TRANSIT"=br (chars "TRANSIT"):=by decide +kernel
theorem sG:bq "ORDERS"=br (chars "ORDERS"):=by decide +kernel
theorem vZ:bq "FROM"=br (chars "FROM"):=by decide +kernel
theorem AQ:bq "TO"=br (chars "TO"):=by decide +kernel
theorem bj (nm:Bytes)(w:Bytes)(ws:List Bytes)(bs:List (Int×Int)):bS (br nm) ((w::ws).map br) bs=if ws.length=bs.length/\w=nm then bc (ws.map br) bs else none:=by
 show(if (ws.map br).length=bs.length then(if br w=br nm then bc (ws.map br) bs else none)else none)=_;rw[length_map];by_cases h1:ws.length=bs.length
 .rw[if_pos h1];by_cases h2:w=nm
  .rw[if_pos (by rw[h2]),if_pos ⟨h1,h2⟩]
  .rw[if_neg (λe=>h2 (xz e)),if_neg (λe=>h2 e.2)]
 .rw[if_neg h1,if_neg (λe=>h1 e.1)]
theorem Hm {a b c:Bytes}(ha:a≠[])(hb:b≠[])(hc:c≠[]):bc ([a,b,c].map br) b1=(numberIn 0 999999999 a).bind λx=>(numberIn 1 999999 b).bind λy=>(numberIn 0 999999 c).map λz=>[(x:Int),(y:Int),(z:Int)]:=by
 refine(mz a ha ([b,c].map br) 0 999999999 [(1,999999),(0,999999)]).trans ?_;have e2:=mz b hb ([c].map br) 1 999999 [(0,999999)];have e3:=mz c hc ([].map br) 0 999999 [];cases numberIn 0 999999999 a with
 |none=>rfl
 |some x=>
  show(bc ([b,c].map br) [(1,999999),(0,999999)]).map ((x:Int)::·)=(numberIn 1 999999 b).bind λy=>(numberIn 0 999999 c).map λz=>[(x:Int),(y:Int),(z:Int)]
  rw[show bc ([b,c].map br) [(1,999999),(0,999999)]=_ from e2];cases numberIn 1 999999 b with
  |none=>rfl
  |some y=>
   show((bc ([c].map br) [(0,999999)]).map ((y:Int)::·)).map ((x:Int)::·)=(numberIn 0 999999 c).map λz=>[(x:Int),(y:Int),(z:Int)]
   rw[show bc ([c].map br) [(0,999999)]=_ from e3];cases numberIn 0 999999 c<;>rfl
theorem GW {a b:Bytes}(ha:a≠[])(hb:b≠[])(l1 h1 l2 h2:Nat):bc ([a,b].map br) [((l1:Int),(h1:Int)),((l2:Int),(h2:Int))]=(numberIn l1 h1 a).bind λx=>(numberIn l2 h2 b).map λy=>[(x:Int),(y:Int)]:=by
 refine(mz a ha ([b].map br) l1 h1 [((l2:Int),(h2:Int))]).trans ?_;have e2:=mz b hb ([].map br) l2 h2 [];cases numberIn l1 h1 a with
 |none=>rfl
 |some x=>
  show(bc ([b].map br) [((l2:Int),(h2:Int))]).map ((x:Int)::·)=(numberIn l2 h2 b).map λy=>[(x:Int),(y:Int)]
  rw[show bc ([b].map br) [((l2:Int),(h2:Int))]=_ from e2];cases numberIn l2 h2 b<;>rfl
theorem FO:chars "ORDERS"≠chars "TRANSIT":=by decide +kernel
theorem AR (ws:List Bytes)(hne:∀w∈ws,w≠[]):g9 (ws.map br)=(readLine ws).map aM:=by
 have un:g9 (ws.map br)=(match bS (bq "DUES") (ws.map br) b1 with|some ns=>some (("DUES":Str),ns)|none=>match bS (bq "TRANSIT") (ws.map br) b2 with|some ns=>some ("TRANSIT",ns)|none=>match bS (bq "ORDERS") (ws.map br) b3 with|some ns=>some ("ORDERS",ns)|none=>none):=rfl;rw[un,vY,pZ,sG]
 match ws,hne with
 |[],_=>rfl
 |[w],_=>
  rw[bj,bj,bj,if_neg (λe=>absurd e.1 (by decide)),if_neg (λe=>absurd e.1 (by decide)),if_neg (λe=>absurd e.1 (by decide))];rfl
 |[w,a],_=>
  rw[bj,bj,bj,if_neg (λe=>absurd e.1 (show¬1=3 by decide)),if_neg (λe=>absurd e.1 (show¬1=2 by decide)),if_neg (λe=>absurd e.1 (show¬1=2 by decide))];rfl
 |[w,a,b],hne=>
  have ha:=hne a (by simp);have hb:=hne b (by simp);rw[bj,bj,bj,if_neg (λe=>absurd e.1 (show¬2=3 by decide))];show(match (if ([a,b]:List Bytes).length=b2.length/\w=chars "TRANSIT" then bc ([a,b].map br) b2 else none)with|some ns=>some (("TRANSIT":Str),ns)|none=>match (if ([a,b]:List Bytes).length=b3.length/\w=chars "ORDERS" then bc ([a,b].map br) b3 else none)with|some ns=>some ("ORDERS",ns)|none=>none)
   = (if w=chars "TRANSIT" then(numberIn 0 99999 a).bind λa=>(numberIn 0 999999999 b).map λb=>Line.transit a b else if w=chars "ORDERS" then(numberIn 1 9 a).bind λa=>(numberIn 1 999999999 b).map λb=>Line.orders a b else none).map aM
  have g2:=GW ha hb 0 99999 0 999999999;have g3:=GW ha hb 1 9 1 999999999;by_cases h1:w=chars "TRANSIT"
  .rw[if_pos ⟨rfl,h1⟩,if_pos h1,if_neg (λe=>FO (e.2.symm.trans h1))];rw[show bc ([a,b].map br) b2=_ from g2];cases numberIn 0 99999 a with
   |none=>rfl
   |some x=>
    cases numberIn 0 999999999 b with
    |none=>rfl
    |some y=>rfl
  .rw[if_neg (λe=>h1 e.2),if_neg h1];by_cases h2:w=chars "ORDERS"
   .rw[if_pos ⟨rfl,h2⟩,if_pos h2];rw[show bc ([a,b].map br) b3=_ from g3];cases numberIn 1 9 a with
    |none=>rfl
    |some x=>
     cases numberIn 1 999999999 b with
     |none=>rfl
     |some y=>rfl
   .rw[if_neg (λe=>h2 e.2),if_neg h2];rfl
 |[w,a,b,c],hne=>
  have ha:=hne a (by simp);have hb:=hne b (by simp);have hc:=hne c (by simp);rw[bj,bj,bj,if_neg (show¬(([a,b,c]:List Bytes).length=b2.length/\w=chars "TRANSIT")from λe=>absurd e.1 (show¬3=2 by decide)),if_neg (show¬(([a,b,c]:List Bytes).length=b3.length/\w=chars "ORDERS")from λe=>absurd e.1 (show¬3=2 by decide))];show(match (if ([a,b,c]:List Bytes).length=b1.length/\w=chars "DUES" then bc ([a,b,c].map br) b1 else none)with|some ns=>some (("DUES":Str),ns)|none=>none)
   = (if w=chars "DUES" then(numberIn 0 999999999 a).bind λa=>(numberIn 1 999999 b).bind λb=>(numberIn 0 999999 c).map λc=>Line.dues a b c else none).map aM
  by_cases h1:w=chars "DUES"
  .rw[if_pos ⟨rfl,h1⟩,if_pos h1,Hm ha hb hc];cases numberIn 0 999999999 a with
   |none=>rfl
   |some x=>
    cases numberIn 1 999999 b with
    |none=>rfl
    |some y=>
     cases numberIn 0 999999 c with
     |none=>rfl
     |some z=>rfl
  .rw[if_neg (λe=>h1 e.2),if_neg h1];rfl
 |w::a::b::c::d::r,_=>
  rw[bj,bj,bj,if_neg (λe=>absurd (show r.length+4=3 from e.1) (by omega)),if_neg (λe=>absurd (show r.length+4=2 from e.1) (by omega)),if_neg (λe=>absurd (show r.length+4=2 from e.1) (by omega))];rfl
theorem uL (nm:Str)(word:String)(hnm:bq nm=br (chars word))(ws:List Bytes)(hne:∀w∈ws,w≠[]):cq (bq nm) (ws.map br)=match readOne word ws with|some n=>(n:Int)|none=>0:=by
 unfold cq;rw[hnm]
 match ws,hne with
 |[],_=>rfl
 |[w],_=>
  rw[bj,if_neg (λe=>absurd (show 0=1 from e.1) (by decide))];rfl
 |[w,n],hne=>
  have hn:=hne n (by simp);rw[bj];show(match (if ([n]:List Bytes).length=([(1,10)]:List (Int×Int)).length/\w=chars word then bc ([n].map br) [(1,10)]else none)with|some (n::_)=>n|_=>0)
   = (match (if w=chars word then numberIn 1 10 n else none)with|some n=>(n:Int)|none=>0)
  by_cases h1:w=chars word
  .rw[if_pos ⟨rfl,h1⟩,if_pos h1];have g:=mz n hn ([].map br) 1 10 [];rw[show bc ([n].map br) [(1,10)]=_ from g];cases numberIn 1 10 n<;>rfl
  .rw[if_neg (λe=>h1 e.2),if_neg h1]
 |w::a::b::r,_=>
  rw[bj,if_neg (λe=>absurd (show r.length+2=1 from e.1) (by omega))];rfl
theorem hJ {word:String}{ws:List Bytes}{n:Nat}(h:readOne word ws=some n):1<=n/\n<=10:=by
 match ws,h with
 |[w,x],h=>
  have h':(if w=chars word then numberIn 1 10 x else none)=some n:=h;by_cases h1:w=chars word
  .rw[if_pos h1,jL]at h';cases e:AN x with
   |none=>rw[e]at h';cases h'
   |some m=>
    rw[e]at h';have h2:(if 1<=m/\m<=10 then some m else none)=some n:=h';by_cases h3:1<=m/\m<=10
    .rw[if_pos h3]at h2;cases h2;exact h3
    .rw[if_neg h3]at h2;cases h2
  .rw[if_neg h1]at h';cases h'
 |[],h=>cases h
 |[_],h=>cases h
 |_::_::_::_,h=>cases h
theorem uM (sd rc:Int):∀(ps:List Bytes) (acc:List Line) (k:Nat),k=acc.length+3->
  match readLines k acc (ps.map Vbpoal.wordsOf)with
  |.ok l=>aW (k:Int) sd rc (acc.map aM) (ps.map br)=(0,sd,rc,l.map aM)/\l≠[]
  |.error j=>0<j/\((aW (k:Int) sd rc (acc.map aM) (ps.map br)).1=(j:Int)\/(ps=[]/\acc=[]/\j=k))
 |[],acc,k,hk=>by
  show match (if acc.isEmpty=true then Except.error k else Except.ok acc)with
   |.ok l=>aW (k:Int) sd rc (acc.map aM) []=(0,sd,rc,l.map aM)/\l≠[]
   |.error j=>0<j/\((aW (k:Int) sd rc (acc.map aM) []).1=(j:Int)\/(([]:List Bytes)=[]/\acc=[]/\j=k))
  cases acc with
  |nil=>exact⟨by omega,.inr ⟨rfl,rfl,rfl⟩⟩
  |cons x l=>exact⟨rfl,λe=>nomatch e⟩
 |p::ps,acc,k,hk=>by
  have hw:bo (br p)=(Vbpoal.wordsOf p).map br:=o8 p;have hne:∀w∈Vbpoal.wordsOf p,w≠[]:=λw h e=>by have:=(mem_filter.mp h).2;rw[e]at this;cases this
  have he:=AR (Vbpoal.wordsOf p) hne;have hgo:aW (k:Int) sd rc (acc.map aM) ((p::ps).map br)=if (bD sd rc (acc.map aM) (k:Int) (bo (br p))).1=true then aW ((k:Int)+1) (bD sd rc (acc.map aM) (k:Int) (bo (br p))).2.1 (bD sd rc (acc.map aM) (k:Int) (bo (br p))).2.2.1 (bD sd rc (acc.map aM) (k:Int) (bo (br p))).2.2.2 (ps.map br)
   else((k:Int),(bD sd rc (acc.map aM) (k:Int) (bo (br p))).2):=rfl
  have hl:bD sd rc (acc.map aM) (k:Int) (bo (br p))=if 12<(k:Int)then(false,sd,rc,acc.map aM)else match (readLine (Vbpoal.wordsOf p)).map aM with
    |none=>(false,sd,rc,acc.map aM)
    |some x=>(true,sd,rc,acc.map aM++[x]):=by
   unfold bD;rw[if_neg (by omega),if_neg (by omega),hw,he];by_cases h:12<(k:Int)
   .rw[if_pos h,if_pos h]
   .rw[if_neg h,if_neg h];cases (readLine (Vbpoal.wordsOf p)).map aM<;>rfl
  show match (match readLine (Vbpoal.wordsOf p)with|none=>Except.error k|some x=>if 10<=acc.length then Except.error k else readLines (k+1) (acc++[x]) (ps.map Vbpoal.wordsOf))with
   |.ok l=>aW (k:Int) sd rc (acc.map aM) ((p::ps).map br)=(0,sd,rc,l.map aM)/\l≠[]
   |.error j=>0<j/\((aW (k:Int) sd rc (acc.map aM) ((p::ps).map br)).1=(j:Int)\/(p::ps=[]/\acc=[]/\j=k))
  cases hr:readLine (Vbpoal.wordsOf p)with
  |none=>
   rw[hr]at hl;have hl':bD sd rc (acc.map aM) (k:Int) (bo (br p))=(false,sd,rc,acc.map aM):=by
    rw[hl];by_cases h:12<(k:Int)
    .rw[if_pos h]
    .rw[if_neg h];rfl
   refine⟨by omega,.inl ?_⟩;rw[hgo,hl']
   rfl
  |some x=>
   rw[hr]at hl;by_cases h10:10<=acc.length
   .have hl':bD sd rc (acc.map aM) (k:Int) (bo (br p))=(false,sd,rc,acc.map aM):=by rw[hl,if_pos (by omega)]
    show match (if 10<=acc.length then Except.error k else readLines (k+1) (acc++[x]) (ps.map Vbpoal.wordsOf))with
     |.ok l=>_
     |.error j=>_
    rw[if_pos h10];refine⟨by omega,.inl ?_⟩;rw[hgo,hl']
    rfl
   .have hl':bD sd rc (acc.map aM) (k:Int) (bo (br p))=(true,sd,rc,(acc++[x]).map aM):=by rw[hl,if_neg (by omega),map_append];rfl
    show match (if 10<=acc.length then Except.error k else readLines (k+1) (acc++[x]) (ps.map Vbpoal.wordsOf))with
     |.ok l=>_
     |.error j=>_
    rw[if_neg h10];have ih:=uM sd rc ps (acc++[x]) (k+1) (by rw[length_append,hk];rfl);have hgo':aW (k:Int) sd rc (acc.map aM) ((p::ps).map br)=aW ((k+1:Nat):Int) sd rc ((acc++[x]).map aM) (ps.map br):=by
     rw[hgo,hl']
     rfl
    cases hrl:readLines (k+1) (acc++[x]) (ps.map Vbpoal.wordsOf)with
    |ok l=>
     rw[hrl]at ih;rw[hgo'];exact ih
    |error j=>
     rw[hrl]at ih;rw[hgo'];refine⟨ih.1,.inl ?_⟩;rcases ih.2 with q|q
     .exact q
     .exact absurd q.2.1 (by simp)
theorem xA (b:Bytes):match readTold b with
  |.ok t=>fF (br b)=(0,(t.from_:Int),(t.to:Int),t.lines.map aM)
  |.error j=>(fF (br b)).1=(j:Int)/\0<j:=by
 have hp:bh 10 (br b)=(partsOf 10 b).map br:=o7 10 b;obtain⟨p,r,hpr⟩:∃p r,partsOf 10 b=p::r:=by
  obtain⟨q,l,e⟩:=gg 10 (br b);rw[hp]at e;cases h:partsOf 10 b with
  |nil=>rw[h]at e;cases e
  |cons p r=>exact⟨p,r,rfl⟩
 have hwne:∀q:Bytes,∀w∈Vbpoal.wordsOf q,w≠[]:=λq w h e=>by have:=(mem_filter.mp h).2;rw[e]at this;cases this
 have hlin:Vbpoal.linesOf b=Vbpoal.wordsOf p::r.map Vbpoal.wordsOf:=by unfold Vbpoal.linesOf;rw[hpr];rfl
 have hF:=uL "FROM" "FROM" vZ (Vbpoal.wordsOf p) (hwne p);unfold fF;rw[hp,hpr];have g1:aW 1 0 0 [] ((p::r).map br)=if (bD 0 0 [] 1 (bo (br p))).1=true then aW (1+1) (bD 0 0 [] 1 (bo (br p))).2.1 (bD 0 0 [] 1 (bo (br p))).2.2.1 (bD 0 0 [] 1 (bo (br p))).2.2.2 (r.map br)else(1,(bD 0 0 [] 1 (bo (br p))).2):=rfl
 have l1:bD 0 0 [] 1 (bo (br p))=(decide (0<cq (bq "FROM") ((Vbpoal.wordsOf p).map br)),cq (bq "FROM") ((Vbpoal.wordsOf p).map br),0,[]):=by rw[o8 p];exact if_pos rfl
 have fin:∀{x:Int×Int×Int×List i3},x.1≠0->(if x.1=0/\x.2.2.2=[]then((((p::r).map br).length:Int)+1,x.2)else x)=x:=λh=>if_neg λq=>h q.1;have un:readTold b=(match readOne "FROM" (Vbpoal.wordsOf p)with|none=>.error 1|some a=>match r.map Vbpoal.wordsOf with|[]=>.error 2|t::l=>match readOne "TO" t with|none=>.error 2|some c=>if a=c then .error 2 else match readLines 3 [] l with|.ok ls=>.ok (Vbpoal.Told.mk a c ls)|.error k=>.error k):=by
  unfold readTold;rw[hlin]
  rfl
 rw[un];cases hf:readOne "FROM" (Vbpoal.wordsOf p)with
 |none=>
  rw[hf]at hF;have hF':cq (bq "FROM") ((Vbpoal.wordsOf p).map br)=0:=hF;have g:aW 1 0 0 [] ((p::r).map br)=(1,0,0,[]):=by rw[g1,l1,hF'];rfl
  show(if (aW 1 0 0 [] ((p::r).map br)).1=0/\(aW 1 0 0 [] ((p::r).map br)).2.2.2=[]then((((p::r).map br).length:Int)+1,(aW 1 0 0 [] ((p::r).map br)).2)else aW 1 0 0 [] ((p::r).map br)).1=((1:Nat):Int)/\0<1;rw[g,fin (by decide)];exact⟨rfl,by decide⟩
 |some a=>
  rw[hf]at hF;have hF':cq (bq "FROM") ((Vbpoal.wordsOf p).map br)=(a:Int):=hF;have ha:=hJ hf;have g:aW 1 0 0 [] ((p::r).map br)=aW 2 (a:Int) 0 [] (r.map br):=by rw[g1,l1,hF',if_pos (by show decide (0<(a:Int))=true;exact decide_eq_true (by omega))];rfl
  cases r with
  |nil=>
   have g2:aW 1 0 0 [] ([p].map br)=(0,(a:Int),0,[]):=g;show(if (aW 1 0 0 [] ([p].map br)).1=0/\(aW 1 0 0 [] ([p].map br)).2.2.2=[]then((([p].map br).length:Int)+1,(aW 1 0 0 [] ([p].map br)).2)else aW 1 0 0 [] ([p].map br)).1=((2:Nat):Int)/\0<2;rw[g2,if_pos ⟨rfl,rfl⟩];exact⟨rfl,by decide⟩
  |cons t l=>
   have hT:=uL "TO" "TO" AQ (Vbpoal.wordsOf t) (hwne t);have g2:aW 2 (a:Int) 0 [] ((t::l).map br)=if (bD (a:Int) 0 [] 2 (bo (br t))).1=true then aW (2+1) (bD (a:Int) 0 [] 2 (bo (br t))).2.1 (bD (a:Int) 0 [] 2 (bo (br t))).2.2.1 (bD (a:Int) 0 [] 2 (bo (br t))).2.2.2 (l.map br)else(2,(bD (a:Int) 0 [] 2 (bo (br t))).2):=rfl
   have l2:bD (a:Int) 0 [] 2 (bo (br t))=((if 0<cq (bq "TO") ((Vbpoal.wordsOf t).map br)then !decide (cq (bq "TO") ((Vbpoal.wordsOf t).map br)=(a:Int))else false),(a:Int),cq (bq "TO") ((Vbpoal.wordsOf t).map br),[]):=by rw[o8 t];unfold bD;rw[if_neg (by decide),if_pos rfl]
   have two:∀{x:Int×Int×Int×List i3},aW 1 0 0 [] ((p::t::l).map br)=x->x.1=2->(if (aW 1 0 0 [] ((p::t::l).map br)).1=0/\(aW 1 0 0 [] ((p::t::l).map br)).2.2.2=[]then((((p::t::l).map br).length:Int)+1,(aW 1 0 0 [] ((p::t::l).map br)).2)else aW 1 0 0 [] ((p::t::l).map br)).1=((2:Nat):Int)/\0<2:=λ{x} e h=>by rw[e,fin (by rw[h];decide),h];exact⟨rfl,by decide⟩
   cases ht:readOne "TO" (Vbpoal.wordsOf t)with
   |none=>
    rw[ht]at hT;have hT':cq (bq "TO") ((Vbpoal.wordsOf t).map br)=0:=hT;show match (match readOne "TO" (Vbpoal.wordsOf t)with|none=>Except.error 2|some c=>if a=c then .error 2 else match readLines 3 [] (l.map Vbpoal.wordsOf)with|.ok ls=>.ok (Vbpoal.Told.mk a c ls)|.error k=>.error k)with
     |.ok t=>_
     |.error j=>_
    rw[ht];refine two (x:=(2,(a:Int),0,[])) ?_ rfl;rw[g,g2,l2,hT'];rfl
   |some c=>
    rw[ht]at hT;have hT':cq (bq "TO") ((Vbpoal.wordsOf t).map br)=(c:Int):=hT;have hc:=hJ ht;show match (match readOne "TO" (Vbpoal.wordsOf t)with|none=>Except.error 2|some c=>if a=c then .error 2 else match readLines 3 [] (l.map Vbpoal.wordsOf)with|.ok ls=>.ok (Vbpoal.Told.mk a c ls)|.error k=>.error k)with
     |.ok t=>_
     |.error j=>_
    rw[ht];show match (if a=c then Except.error 2 else match readLines 3 [] (l.map Vbpoal.wordsOf)with|.ok ls=>.ok (Vbpoal.Told.mk a c ls)|.error k=>.error k)with
     |.ok t=>_
     |.error j=>_
    by_cases hac:a=c
    .rw[if_pos hac];refine two (x:=(2,(a:Int),(c:Int),[])) ?_ rfl;rw[g,g2,l2,hT',if_pos (show(0:Int)<(c:Int)by omega),decide_eq_true (show(c:Int)=(a:Int)by rw[hac])];rfl
    .rw[if_neg hac];have g3:aW 1 0 0 [] ((p::t::l).map br)=aW ((3:Nat):Int) (a:Int) (c:Int) (([]:List Line).map aM) (l.map br):=by rw[g,g2,l2,hT',if_pos (show(0:Int)<(c:Int)by omega),decide_eq_false (show¬(c:Int)=(a:Int)by omega)];rfl
     have key:=uM (a:Int) (c:Int) l [] 3 rfl;cases hrl:readLines 3 [] (l.map Vbpoal.wordsOf)with
     |ok ls=>
      rw[hrl]at key;rw[<- g3]at key;show(if (aW 1 0 0 [] ((p::t::l).map br)).1=0/\(aW 1 0 0 [] ((p::t::l).map br)).2.2.2=[]then((((p::t::l).map br).length:Int)+1,(aW 1 0 0 [] ((p::t::l).map br)).2)else aW 1 0 0 [] ((p::t::l).map br))=(0,(a:Int),(c:Int),ls.map aM);rw[key.1,if_neg (λq=>key.2 (List.map_eq_nil_iff.mp q.2))]
     |error j=>
      rw[hrl]at key;rw[<- g3]at key;show(if (aW 1 0 0 [] ((p::t::l).map br)).1=0/\(aW 1 0 0 [] ((p::t::l).map br)).2.2.2=[]then((((p::t::l).map br).length:Int)+1,(aW 1 0 0 [] ((p::t::l).map br)).2)else aW 1 0 0 [] ((p::t::l).map br)).1=(j:Int)/\0<j;refine⟨?_,key.1⟩;rcases key.2 with q|⟨q1,_,q3⟩
      .rw[fin (by rw[q];have:=key.1;omega),q]
      .subst q1 q3;have g4:aW 1 0 0 [] ([p,t].map br)=(0,(a:Int),(c:Int),[]):=g3;rw[g4,if_pos ⟨rfl,rfl⟩];rfl
theorem dP {lo hi n:Nat}{b:Bytes}(h:numberIn lo hi b=some n):lo<=n/\n<=hi:=by
 rw[jL]at h;cases e:AN b with
 |none=>rw[e]at h;cases h
 |some m=>
  rw[e]at h;have h2:(if lo<=m/\m<=hi then some m else none)=some n:=h;by_cases h3:lo<=m/\m<=hi
  .rw[if_pos h3]at h2;cases h2;exact h3
  .rw[if_neg h3]at h2;cases h2
theorem j6 {α β:Type}{o:Option α}{f:α->Option β}{y:β}(h:o.bind f=some y):∃x,o=some x/\f x=some y:=by
 cases o with
 |none=>cases h
 |some x=>exact⟨x,rfl,h⟩
theorem CH {ws:List Bytes}{x:Line}(h:readLine ws=some x):d8 (aM x):=by
 match ws,h with
 |[w,a,b,c],h=>
  have h':(if w=chars "DUES" then(numberIn 0 999999999 a).bind λa=>(numberIn 1 999999 b).bind λb=>(numberIn 0 999999 c).map λc=>Line.dues a b c else none)=some x:=h;by_cases h1:w=chars "DUES"
  .rw[if_pos h1]at h';obtain⟨na,ea,h2⟩:=j6 h';obtain⟨nb,eb,h3⟩:=j6 h2;obtain⟨nc,ec,rfl⟩:=map_eq_some_iff.mp h3;have q1:=dP ea;have q2:=dP eb;have q3:=dP ec;exact .dues _ _ _ (by omega) (by omega) (by omega)
  .rw[if_neg h1]at h';cases h'
 |[w,a,b],h=>
  have h':(if w=chars "TRANSIT" then(numberIn 0 99999 a).bind λa=>(numberIn 0 999999999 b).map λb=>Line.transit a b else if w=chars "ORDERS" then(numberIn 1 9 a).bind λa=>(numberIn 1 999999999 b).map λb=>Line.orders a b else none)=some x:=h;by_cases h1:w=chars "TRANSIT"
  .rw[if_pos h1]at h';obtain⟨na,ea,h2⟩:=j6 h';obtain⟨nb,eb,rfl⟩:=map_eq_some_iff.mp h2;have q1:=dP ea;have q2:=dP eb;exact .transit _ _ (by omega) (by omega)
  .rw[if_neg h1]at h';by_cases h2:w=chars "ORDERS"
   .rw[if_pos h2]at h';obtain⟨na,ea,h3⟩:=j6 h';obtain⟨nb,eb,rfl⟩:=map_eq_some_iff.mp h3;have q1:=dP ea;have q2:=dP eb;exact .orders _ _ (by omega) (by omega)
   .rw[if_neg h2]at h';cases h'
 |[],h=>cases h
 |[_],h=>cases h
 |[_,_],h=>cases h
 |_::_::_::_::_::_,h=>cases h
theorem uN:∀(ls:List (List Bytes)) (k:Nat) (acc l:List Line),readLines k acc ls = .ok l->acc.length<=10->(∀x∈acc,d8 (aM x))->l.length<=10/\∀x∈l,d8 (aM x)
 |[],k,acc,l,h,hl,ha=>by
  have h':(if acc.isEmpty=true then Except.error k else Except.ok acc)=Except.ok l:=h;cases acc with
  |nil=>cases h'
  |cons x r=>cases h';exact⟨hl,ha⟩
 |ws::ls,k,acc,l,h,hl,ha=>by
  have h':(match readLine ws with|none=>Except.error k|some x=>if 10<=acc.length then Except.error k else readLines (k+1) (acc++[x]) ls)=Except.ok l:=h;cases e:readLine ws with
  |none=>rw[e]at h';cases h'
  |some x=>
   rw[e]at h';have h2:(if 10<=acc.length then Except.error k else readLines (k+1) (acc++[x]) ls)=Except.ok l:=h';by_cases h3:10<=acc.length
   .rw[if_pos h3]at h2;cases h2
   .rw[if_neg h3]at h2;refine uN ls (k+1) (acc++[x]) l h2 (by rw[length_append];show acc.length+1<=10;omega) λy hy=>?_;rcases mem_append.mp hy with hy|hy
    .exact ha y hy
    .rw[mem_singleton.mp hy];exact CH e
def qU (x:Nat×Nat):Int×Int:=((x.1:Int),(x.2:Int))
theorem yH (x y:Int×Int):ge x y=ge y x:=by unfold ge;rw[Int.add_comm (x.1*y.2),mul_comm x.2 y.2]
theorem v0 (x y z:Int×Int):ge (ge x y) z=ge x (ge y z):=by
 show((x.1*y.2+y.1*x.2)*z.2+z.1*(x.2*y.2),x.2*y.2*z.2)=(x.1*(y.2*z.2)+(y.1*z.2+z.1*y.2)*x.2,x.2*(y.2*z.2));rw[Int.add_mul,Int.add_mul,mul_assoc x.2 y.2 z.2]
 congr 1
 have e1:x.1*y.2*z.2=x.1*(y.2*z.2):=mul_assoc _ _ _;have e2:y.1*x.2*z.2=y.1*z.2*x.2:=by rw[mul_assoc,mul_comm x.2,<- mul_assoc]
 have e3:z.1*(x.2*y.2)=z.1*y.2*x.2:=by rw[mul_comm x.2,<- mul_assoc]
 rw[e1,e2,e3,Int.add_assoc]
theorem qV (x:Int×Int):ge x (0,1)=x:=by show(x.1*1+0*x.2,x.2*1)=x;rw[Int.mul_one,Int.zero_mul,Int.add_zero,Int.mul_one]
theorem yI (x:Int×Int):ge (0,1) x=x:=by rw[yH,qV]
theorem qW {α:Type}(g:α->Int×Int):∀(l:List α) (a:Int×Int),l.foldl (λa x=>ge a (g x)) a=ge a (l.foldr (λx b=>ge (g x) b) (0,1))
 |[],a=>(qV a).symm
 |x::l,a=>by show l.foldl (λa x=>ge a (g x)) (ge a (g x))=ge a (ge (g x) (l.foldr (λx b=>ge (g x) b) (0,1)));rw[qW g l,v0]
theorem v3 (x y:Nat×Nat):qU (added x y)=ge (qU x) (qU y):=by show(((x.1*y.2+y.1*x.2:Nat):Int),((x.2*y.2:Nat):Int))=((x.1:Int)*(y.2:Int)+(y.1:Int)*(x.2:Int),(x.2:Int)*(y.2:Int));rw[Int.natCast_add,natCast_mul,natCast_mul,natCast_mul]
def dD (s:Vbpoal.State)(k:Int):Option Int:=(rateOf s k.toNat).map λ(n:Nat)=>(n:Int)
def jM (h:House):Int×Int×Int:=((h.kilo:Int),(h.piece:Int),(h.mile:Int))
theorem AS (s:Vbpoal.State)(h:House)(x:Line)(hr:fz (dD s) (aM x)):∃v,worthOf s h x=some v/\eR (jM h) (dD s) (aM x)=qU v:=by
 cases x with
 |dues a b c=>
  refine⟨_,rfl,?_⟩;show((a:Int)*(h.kilo:Int)*(b:Int)+(c:Int)*(a:Int)*(h.piece:Int)*1000,1000*(b:Int))=(((h.kilo*a*b+1000*(h.piece*a*c):Nat):Int),((1000*b:Nat):Int));rw[Int.natCast_add,natCast_mul,natCast_mul,natCast_mul,natCast_mul,natCast_mul,natCast_mul]
  congr 1
  have e1:(a:Int)*(h.kilo:Int)*(b:Int)=(h.kilo:Int)*(a:Int)*(b:Int):=by rw[mul_comm (a:Int)]
  have e2:(c:Int)*(a:Int)*(h.piece:Int)*1000=((1000:Nat):Int)*((h.piece:Int)*(a:Int)*(c:Int)):=by rw[mul_comm _ (1000:Int),mul_comm ((c:Int)*(a:Int)),mul_comm (c:Int),<- mul_assoc (h.piece:Int)];rfl
  rw[e1,e2]
 |transit m g=>
  refine⟨_,rfl,?_⟩;show((m:Int)*(g:Int)*(h.mile:Int),(1000*1000000:Int))=(((h.mile*m*g:Nat):Int),((1000000000:Nat):Int));rw[natCast_mul,natCast_mul]
  congr 1
  rw[mul_comm _ (h.mile:Int),<- mul_assoc]
 |orders k a=>
  have q:(dD s (k:Int)).isSome=true:=hr rfl;have e:dD s (k:Int)=(rateOf s k).map λ(n:Nat)=>(n:Int):=rfl;cases er:rateOf s k with
  |none=>rw[e,er]at q;cases q
  |some n=>
   refine⟨(a*n,1000000),?_,?_⟩
   .show(rateOf s k).map (λr=>(a*r,1000000))=_;rw[er];rfl
   .show((a:Int)*(dD s (k:Int)).getD 0,(1000000:Int))=(((a*n:Nat):Int),((1000000:Nat):Int));rw[e,er,natCast_mul];rfl
theorem v4 (s:Vbpoal.State)(h:House)(x:Line)(hr:¬fz (dD s) (aM x)):worthOf s h x=none:=by
 cases x with
 |dues a b c=>exact absurd (λe=>absurd (show("DUES":Str) = "ORDERS" from e) (by decide +kernel)) hr
 |transit m g=>exact absurd (λe=>absurd (show("TRANSIT":Str) = "ORDERS" from e) (by decide +kernel)) hr
 |orders k a=>
  show(rateOf s k).map _=none;cases er:rateOf s k with
  |none=>rfl
  |some n=>
   refine absurd (λ_=>?_) hr;show((rateOf s k).map λ(n:Nat)=>(n:Int)).isSome=true;rw[er];rfl
theorem qX (s:Vbpoal.State)(h:House):∀ls:List Line,(∀x∈ls,fz (dD s) (aM x))->∃v,summed s h ls=some v/\(ls.map aM).foldr (λx b=>ge (eR (jM h) (dD s) x) b) (0,1)=qU v
 |[],_=>⟨(0,1),rfl,rfl⟩
 |x::ls,hx=>by
  obtain⟨v,e1,e2⟩:=AS s h x (hx x (mem_cons_self ..));obtain⟨u,e3,e4⟩:=qX s h ls λy hy=>hx y (mem_cons_of_mem _ hy);refine⟨added v u,?_,?_⟩
  .show(worthOf s h x).bind (λa=>(summed s h ls).map λb=>added a b)=_;rw[e1,e3];rfl
  .show ge (eR (jM h) (dD s) (aM x)) ((ls.map aM).foldr (λx b=>ge (eR (jM h) (dD s) x) b) (0,1))=_;rw[e2,e4,v3]
theorem ni (s:Vbpoal.State)(h:House):∀ls:List Line,(∃x∈ls,¬fz (dD s) (aM x))->summed s h ls=none
 |[],hx=>by obtain⟨_,hm,_⟩:=hx;cases hm
 |x::ls,hx=>by
  show(worthOf s h x).bind (λa=>(summed s h ls).map λb=>added a b)=none;obtain⟨y,hm,hn⟩:=hx;rcases mem_cons.mp hm with e|hm
  .rw[<- e,v4 s h y hn];rfl
  .rw[ni s h ls ⟨y,hm,hn⟩];cases worthOf s h x<;>rfl
theorem CI (s:Vbpoal.State)(t:Vbpoal.Told)(hx:∀x∈t.lines,fz (dD s) (aM x)) :
  ∃n:Nat,fullOf s t=some n/\(gG (jM (houseAt s t.from_)) (dD s) (t.lines.map aM)).1 / (gG (jM (houseAt s t.from_)) (dD s) (t.lines.map aM)).2=(n:Int):=by
 obtain⟨v,e1,e2⟩:=qX s (houseAt s t.from_) t.lines hx;refine⟨v.1 / v.2,?_,?_⟩
 .unfold fullOf;rw[e1];rfl
 .have e:gG (jM (houseAt s t.from_)) (dD s) (t.lines.map aM)=qU v:=by unfold gG;rw[qW,yI,e2]
  rw[e];show(v.1:Int) / (v.2:Int)=((v.1 / v.2:Nat):Int);exact(Int.natCast_ediv v.1 v.2).symm
theorem yJ (s:Vbpoal.State)(t:Vbpoal.Told)(hx:∃x∈t.lines,¬fz (dD s) (aM x)):fullOf s t=none:=by unfold fullOf;rw[ni s _ t.lines hx];rfl
def pd (ca:Addr)(j:Int):List (Str×V):=[("calls",.ref ca),("place",.int j)]
structure E5 (K:PySem.W.Frag)(C:Addr):Prop where
 cl:lS K C
 n_calls:aN K C "calls"
 n_place:aN K C "place"
inductive AT (C:Addr)(vs:List V)(H:Hp)(Q:VK)(E:XK):Prop
 |mk (x dx ca:Addr)(_:vs=[.ref x,.ref ca])(_:H x=some (.ins C dx []))(_:Q .non (upd H x (.ins C dx (pd ca 0))))
theorem mB {f C:Addr}{fd:FuncData}(F:fX K "__init__" "CallList.__init__" cV f fd)(T:E5 K C):aG P w K mg base bO 1 f fd ["self","calls"] (AT C):=by
 refine F.ok jE (λvs H Q E h=>?_) (λcdv A outer s H vs Q E hr h=>?_)
 .obtain⟨x,dx,ca,rfl,_⟩:=h
  rfl
 .obtain⟨x,dx,ca,rfl,hx,k⟩:=h;have cl:=T.cl;refine⟨_,(ae (bp (pv 0) (pv 1) rfl) (ai (bp (pv 0) al rfl))),?_⟩;walk_at"prep";walk_at"rd";refine⟨_,_,_,_,rfl,hx,cl,T.n_calls,lb rfl,?_⟩;walk_at"rd";refine⟨_,_,_,_,rfl,ac,cl,T.n_place,lb rfl,?_⟩;rw[bH];exact k
def GE (K:PySem.W.Frag)(C:Addr)(H:Hp)(ra ca:Addr)(ns:List Int)(j:Nat):Prop:=(∃dx,H ra=some (.ins C dx (pd ca (j:Int))))/\aR K H ca (ns.map V.int)
inductive CJ (K:PySem.W.Frag)(C:Addr)(vs:List V)(H:Hp)(Q:VK)(E:XK):Prop
 |mk (ra ca:Addr)(ns:List Int)(j:Nat)(_:vs=[.ref ra])(_:GE K C H ra ca ns j)(_:Q (.bl (decide ((ns.length:Int)<=(j:Int)))) H)
theorem yK {f C:Addr}{fd:FuncData}(F:fX K "at_end" "CallList.at_end" eG f fd)(T:E5 K C)(n_len:mg "len"=none):aG P w K mg base bO 1 f fd ["self"] (CJ K C):=by
 refine F.ok kK (λvs H Q E h=>?_) (λcdv A outer s H vs Q E hr h=>?_)
 .obtain⟨_,_,_,_,rfl,_⟩:=h
  rfl
 .obtain⟨ra,ca,ns,j,rfl,⟨⟨dx,hra⟩,hs⟩,k⟩:=h;have cl:=T.cl;refine⟨_,(ai (ao (gL qu (am (pv 0) rfl) (aI ax (by rfl) n_len boot_len (ab (am (pv 0) rfl) af)) (aB _)))),?_⟩;walk_at"prep";walk_at"rd";refine⟨_,_,_,_,_,rfl,hra,cl,T.n_place,rfl,?_⟩;walk_at"rd";refine⟨_,_,_,_,_,rfl,hra,cl,T.n_calls,rfl,?_⟩;walk_at"rd";rw[length_map];exact k
inductive sH (K:PySem.W.Frag)(C:Addr)(vs:List V)(H:Hp)(Q:VK)(E:XK):Prop
 |mk (ra ca dx:Addr)(ns:List Int)(j:Nat)(z:Int)(_:vs=[.ref ra])(_:H ra=some (.ins C dx (pd ca (j:Int))))(_:aR K H ca (ns.map V.int))(_:ns[j]?=some z)(_:Q (.int z) (upd H ra (.ins C dx (pd ca ((j+1:Nat):Int)))))
theorem gz {f C:Addr}{fd:FuncData}(F:fX K "take_number" "CallList.take_number" bP f fd)(T:E5 K C):aG P w K mg base bO 1 f fd ["self"] (sH K C):=by
 refine F.ok eA (λvs H Q E h=>?_) (λcdv A outer s H vs Q E hr h=>?_)
 .obtain⟨_,_,_,_,_,_,rfl,_⟩:=h
  rfl
 .obtain⟨ra,ca,dx,ns,j,z,rfl,hra,hs,hz,k⟩:=h;have cl:=T.cl;refine⟨_,(ae (aq (i:=1) eA.nd rfl (Or.inl rfl) (bf aJ (am (pv 0) rfl) (am (pv 0) rfl) (λ_ _=>rfl))) (ae (bp (pv 0) (aL cD (am (pv 0) rfl) al) rfl) (ai (ao (pv 1))))),?_⟩;walk_at"prep";walk_at"rd";refine⟨_,_,_,_,_,rfl,hra,cl,T.n_calls,rfl,?_⟩;walk_at"rd";refine⟨_,_,_,_,_,rfl,hra,cl,T.n_place,rfl,?_⟩;refine bw hs (fg hz) ?_;walk_at"rd";refine⟨_,_,_,_,_,rfl,hra,cl,T.n_place,rfl,?_⟩;walk_at"rd";refine⟨_,_,_,_,rfl,hra,cl,T.n_place,lb rfl,?_⟩;walk_at"rd";exact k
def kQ (ra:Addr)(H H':Hp):Prop:=∀b o,H b=some o->b≠ra->H' b=some o
theorem aR.but {K:PySem.W.Frag}{H H':Hp}{ra a:Addr}{xs:List V}{C dx:Addr}{fs:List (Str×V)}(hra:H ra=some (.ins C dx fs))(k:kQ ra H H')(h:aR K H a xs):aR K H' a xs:=by
 rcases h with(h|⟨o,h⟩)|h
 .exact .inl (.inl (k _ _ h (aP h hra (by intro z;cases z))))
 .exact .inl (.inr ⟨o,k _ _ h (aP h hra (by intro z;cases z))⟩)
 .exact .inr h
theorem lF {H:Hp}{ra:Addr}{o:HO}:kQ ra H (upd H ra o):=λb u hb nb=>by rw[ah nb];exact hb
theorem kQ.trans {ra:Addr}{H H1 H2:Hp}(a:kQ ra H H1)(b:kQ ra H1 H2):kQ ra H H2:=λc o h n=>b c o (a c o h n) n
theorem Ez {α:Type}{l:List α}(g:α->V){i n:Nat}(h:i+n<=l.length):nz (l.map g) (some (i:Int)) (some ((i:Int)+(n:Int)))=((l.drop i).take n).map g:=by
 unfold nz;have e1:HT.sIx (l.map g).length 0 (some (i:Int))=i:=by rw[HT.sIx_nat,length_map];omega
 have e2:HT.sIx (l.map g).length (l.map g).length (some ((i:Int)+(n:Int)))=i+n:=by
  have:(i:Int)+(n:Int)=((i+n:Nat):Int):=by omega
  rw[this,HT.sIx_nat,length_map];omega
 rw[e1,e2,List.map_take,List.map_drop]
 congr 1
 omega
inductive xB (K:PySem.W.Frag)(C:Addr)(vs:List V)(H:Hp)(Q:VK)(E:XK):Prop
 |mk (ra ca dx:Addr)(ns:List Int)(j n:Nat)(_:vs=[.ref ra])(_:H ra=some (.ins C dx (pd ca (j:Int))))(_:aR K H ca (ns.map V.int))(_:ns[j]?=some (n:Int))(_:j+1+n<=ns.length)(_:∀(H':Hp) (p:Addr),H p=none->kQ ra H H'->H' ra=some (.ins C dx (pd ca ((j+1+n:Nat):Int)))->LI H' p ((ns.drop (j+1)).take n)->Q (.ref p) H')
theorem uO {f C fn:Addr}{fd fdn:FuncData}(F:fX K "take_row" "CallList.take_row" cW f fd)(T:E5 K C)(m_take_number:lT K C "take_number" "CallList.take_number" bP ["self"] fn fdn):aG P w K mg base bO 2 f fd ["self"] (xB K C):=by
 have G:aG P w K mg base bO 1 fn fdn ["self"] (sH K C):=gz m_take_number.fn T;refine F.ok dJ (λvs H Q E h=>?_) (λcdv A outer s H vs Q E hr h=>?_)
 .obtain⟨_,_,_,_,_,_,rfl,_⟩:=h
  rfl
 .obtain⟨ra,ca,dx,ns,j,n,rfl,hra,hs,hz,hl,k⟩:=h;have cl:=T.cl;refine⟨_,(ae (aq (i:=1) dJ.nd rfl (Or.inl rfl) (ff (pv 0) cl m_take_number G hr)) (ae (aq (i:=2) dJ.nd rfl (Or.inl rfl) (oP rR (am (pv 0) rfl) (k8 (am (pv 0) rfl)) (k8 (aL cD (am (pv 0) rfl) (pv 1))))) (ae (bp (pv 0) (aL cD (am (pv 0) rfl) (pv 1)) rfl) (ai (ao (pv 2)))))),?_⟩;walk_at"prep";walk_at"rd";refine⟨_,_,_,rfl,hra,rfl,?_⟩;walk_at"rd";refine⟨ra,ca,dx,ns,j,_,rfl,hra,hs,hz,?_⟩;walk_at"rd";have hs1:aR K (upd H ra (.ins C dx (pd ca ((j+1:Nat):Int)))) ca (ns.map V.int):=aR.but hra lF hs;refine⟨_,_,_,_,_,rfl,ac,cl,T.n_calls,rfl,?_⟩;walk_at"rd";refine⟨_,_,_,_,_,rfl,ac,cl,T.n_place,rfl,?_⟩;walk_at"rd";refine⟨_,_,_,_,_,rfl,ac,cl,T.n_place,rfl,?_⟩;walk_at"rd";refine As hs1 (λp hp=>?_);rw[Ez V.int hl];have npr:ra≠p:=λe=>by rw[<- e,ac]at hp;cases hp
  have hp0:H p=none:=by rw[ah (Ne.symm npr)]at hp;exact hp
  walk_at"rd";refine⟨_,_,_,_,_,rfl,(by rw[ah npr];exact ac),cl,T.n_place,rfl,?_⟩;walk_at"rd";refine⟨_,_,_,_,rfl,(by rw[ah npr];exact ac),cl,T.n_place,lb rfl,?_⟩;walk_at"rd";refine k _ p hp0 (λb o hb nb=>?_) ?_ ?_
  .rw[ah nb,ah (aj hb hp0),ah nb];exact hb
  .rw[ac];have e:((j+1:Nat):Int)+(n:Int)=((j+1+n:Nat):Int):=by omega
   rw[<- e];rfl
  .show upd _ _ _ _=_;rw[ah (Ne.symm npr),ac]
end Pc
namespace L2
open PyProof.Rows
theorem fM {J:It}{n:Nat}{g:TG}{tt:TT}{te:TE}{vs:List Nat}{σ:St}{R:Hp->Prop}{D:Addr}{H0:Hp}(Pv:Nat->Hp->Prop)(h0:Pv 0 H0)(hst:∀H,Pv n H->J.stop n H)(hgo:∀i H,i<n->Pv i H->J.go i H)
  (hs:∀i H x H',i<n->Pv i H->J.yld i H x H'->g x (eW σ vs) H' λσ2 H2=>eW σ2 vs=eW σ vs/\tt σ2 H2 λb H3=>if b=true then te σ2 H3 λy H4=>∃acc,H4 D=some (.lst acc)/\acc.length<sizeLine/\Pv (i+1) (upd H4 D (.lst (acc++[y])))else Pv (i+1) H3)
  (hd:∀H,Pv n H->R H):∃W:Nat->Nat->Hp->Prop,(∃m,W 0 m H0)/\∀i m H,W i m H->
   (J.stop i H/\R H)\/(J.go i H/\∃Nx:Hp->Prop,(∀H',Nx H'->∃m',m'<m/\W (i+1) m' H')/\∀x H',J.yld i H x H'->g x (eW σ vs) H' λσ2 H2=>eW σ2 vs=eW σ vs/\tt σ2 H2 λb H3=>if b=true then te σ2 H3 λy H4=>∃acc,H4 D=some (.lst acc)/\acc.length<sizeLine/\Nx (upd H4 D (.lst (acc++[y])))else Nx H3):=
 uv (Q:=λ_ H=>R H) Pv h0 hst hgo hs hd
end L2
namespace Pc
open L2
theorem uP {k:Nat}{r:List Int}{xs:List (List Int)}{t:List Int}(h:PyFlat.rows (k+1) r=some (xs,t)):∃(n:Nat) (r':List Int) (xs':List (List Int)),r=(n:Int)::r'/\n<=r'.length/\xs=r'.take n::xs'/\PyFlat.rows k (r'.drop n)=some (xs',t):=by
 have h':(match PyFlat.row r with|none=>none|some (x,s)=>match PyFlat.rows k s with|none=>none|some (xs,t)=>some (x::xs,t))=some (xs,t):=h;cases r with
 |nil=>cases h'
 |cons n r'=>
  have e:PyFlat.row (n::r')=if 0<=n/\n.toNat<=r'.length then some (r'.take n.toNat,r'.drop n.toNat)else none:=rfl
  by_cases hn:0<=n/\n.toNat<=r'.length
  .rw[e,if_pos hn]at h';have h2:(match PyFlat.rows k (r'.drop n.toNat)with|none=>none|some (xs,t)=>some (r'.take n.toNat::xs,t))=some (xs,t):=h';cases e2:PyFlat.rows k (r'.drop n.toNat)with
   |none=>rw[e2]at h2;cases h2
   |some q=>
    rw[e2]at h2;cases h2;exact⟨n.toNat,r',q.1,by rw[toNat_of_nonneg hn.1],hn.2,rfl,e2⟩
  .rw[e,if_neg hn]at h';cases h'
inductive CK (K:PySem.W.Frag)(C:Addr)(vs:List V)(H:Hp)(Q:VK)(E:XK):Prop
 |mk (ra ca dx:Addr)(ns:List Int)(j n k:Nat)(xs:List (List Int))(t:List Int)(_:vs=[.ref ra,.int (n:Int),.int (k:Int)])(_:H ra=some (.ins C dx (pd ca (j:Int))))(_:aR K H ca (ns.map V.int))(_:j+n<=ns.length)(_:ns.length<=16000)(_:n<=100)(_:k<=100)(_:PyFlat.rows k (ns.drop (j+n))=some (xs,t))(_:∀(H':Hp) (p:Addr) (rs:List Addr) (j':Nat),H p=none->kQ ra H H'->H' ra=some (.ins C dx (pd ca (j':Int)))->j'<=ns.length->ns.drop j'=t->H' p=some (.lst (((ns.drop j).take n).map V.int++rs.map V.ref))->Paired (LI H') rs xs->(∀r∈rs,H r=none/\r≠p)->Q (.ref p) H')
theorem lH {f C fn fr:Addr}{fd fdn fdr:FuncData}(F:fX K "take_arguments" "CallList.take_arguments" cI f fd)(T:E5 K C)(n_range:mg "range"=none)
  (m_take_number:lT K C "take_number" "CallList.take_number" bP ["self"] fn fdn) (m_take_row:lT K C "take_row" "CallList.take_row" cW ["self"] fr fdr):aG P w K mg base bO 3 f fd ["self","numbers","rows"] (CK K C):=by
 have G:aG P w K mg base bO 1 fn fdn ["self"] (sH K C):=gz m_take_number.fn T;have G2:aG P w K mg base bO 2 fr fdr ["self"] (xB K C):=uO m_take_row.fn T m_take_number;refine F.ok bQ (λvs H Q E h=>?_) (λcdv A outer s H vs Q E hr h=>?_)
 .obtain⟨_,_,_,_,_,_,_,_,_,rfl,_⟩:=h
  rfl
 .obtain⟨ra,ca,dx,ns,j,n,k,xs,t,rfl,hra,hs,hjn,hnl,hn,hk,hrows,kk⟩:=h;have cl:=T.cl;refine⟨_,(ae (lf (i:=4) (own:=[("turn",3)]) rfl bQ.nd rfl rfl rfl (lY rfl n_range (ab (pv 1) af)) (dI rfl) (λs H C cl fp=>aQ (i:=3) bQ.nd rfl (Or.inl rfl)) (λs H C cl fp=>eE) (λs H C' cl' fp=>ff (pv 0) cl m_take_number G (hr.mono (by decide)))) (ae (ci PassesOwn.never rfl (lY rfl n_range (ab (pv 2) af)) (aQ (i:=3) bQ.nd rfl (Or.inl rfl)) (ai (aV (dz PySem.F.plainAttrs_list PySem.F.slot_list_append PySem.F.type_list_append bZ (pv 4) (ab (ff (pv 0) cl m_take_row G2 hr) af))))) (ai (ao (pv 4))))),?_⟩;walk_at"prep";walk_at"rd";refine⟨(n:Int),rfl,by omega,by omega,λD hD=>?_⟩;have nrD:ra≠D:=aj hra hD;have hn':(n:Int).toNat=n:=toNat_natCast n;refine fM (D:=D) (J:=x9 0 (n:Int).toNat) (n:=n) (λi H'=>kQ ra H H'/\H' ra=some (.ins C dx (pd ca ((j+i:Nat):Int)))/\H' D=some (.lst (((ns.drop j).take i).map V.int)))
   ⟨λb o hb nb=>by rw[ah (aj hb hD)];exact hb,by rw[ah nrD];exact hra,ac⟩ (λ_ _=>by show(n:Int).toNat<=n;omega) (λi _ h _=>by show i<(n:Int).toNat;omega) ?_ ?_
  .rintro i H1 x H2 hi ⟨b1,hra1,hD1⟩ ⟨e,ex⟩;subst e ex;obtain⟨z,hz⟩:∃z,ns[j+i]?=some z:=⟨_,List.getElem?_eq_getElem (show j+i<ns.length by omega)⟩
   have hz2:(ns.drop j)[i]?=some z:=by rw[List.getElem?_drop];exact hz
   walk_at"rd";refine⟨rfl,?_⟩;walk_at"rd";refine⟨_,_,_,rfl,hra1,rfl,?_⟩;walk_at"rd";refine⟨ra,ca,dx,ns,j+i,z,rfl,hra1,aR.but hra b1 hs,hz,?_⟩;refine⟨_,(by rw[ah (Ne.symm nrD)];exact hD1),(by rw[length_map,length_take,sizeLine_eq];omega),λb o hb nb=>?_,?_,?_⟩
   .rw[ah (aj hb hD),ah nb];exact b1 b o hb nb
   .rw[ah nrD,ac];rfl
   .rw[ac,aT hz2,map_append];rfl
  .rintro H1 ⟨b1,hra1,hD1⟩;walk_at"rd";refine⟨(k:Int),rfl,by omega,by omega,?_⟩;have hk':(k:Int).toNat=k:=toNat_natCast k;have hs1:aR K H1 ca (ns.map V.int):=aR.but hra b1 hs;refine sg (J:=x9 0 (k:Int).toNat) (n:=k) (λi σ H'=>∃(z3:Option V) (j':Nat) (rs:List Addr) (done xs':List (List Int)),σ=[some (.ref ra),some (.int (n:Int)),some (.int (k:Int)),z3,some (.ref D)]/\kQ ra H H'/\H' ra=some (.ins C dx (pd ca (j':Int)))/\j'<=ns.length/\ H' D=some (.lst (((ns.drop j).take n).map V.int++rs.map V.ref))/\Paired (LI H') rs done/\(∀r∈rs,H r=none/\r≠D/\r≠ra)/\rs.length<=i/\PyFlat.rows (k-i) (ns.drop j')=some (xs',t)/\xs=done++xs')
    ⟨none,j+n,[],[],xs,rfl,b1,hra1,hjn,by rw[hD1];simp,.nil,(λ_ h=>by cases h),Nat.le_refl _,hrows,rfl⟩ (λ_ _ _=>by show(k:Int).toNat<=k;omega) (λi _ _ h _=>by show i<(k:Int).toNat;omega) ?_ ?_
   .rintro i σ H2 x H3 hi ⟨z3,j',rs,done,xs',rfl,b2,hra2,hj',hD2,hp2,hrs,hrl,hrw,hxs⟩ ⟨e,ex⟩;subst e ex;obtain⟨m,r',xs2,er,hm,rfl,hrw2⟩:=uP (k:=k-(i+1)) (by rw[show k-(i+1)+1=k-i by omega];exact hrw);have hz:ns[j']?=some (m:Int):=by
     have q:(ns.drop j')[0]?=some (m:Int):=by rw[er];rfl
     rw[List.getElem?_drop]at q;exact q
    have hj1:j'<ns.length:=(List.getElem?_eq_some_iff.mp hz).1;have er':r'=ns.drop (j'+1):=by have q:=g0 hz;rw[er]at q;injection q
    have hlen:j'+1+m<=ns.length:=by rw[er',length_drop]at hm;omega
    walk_at"rd";refine⟨_,_,_,rfl,hra2,rfl,?_⟩;walk_at"rd";refine⟨ra,ca,dx,ns,j',m,rfl,hra2,aR.but hra b2 hs,hz,hlen,λH4 p hp0 b3 hra4 hl4=>?_⟩;have hD4:=b3 _ _ hD2 (Ne.symm nrD);have npD:p≠D:=Ne.symm (aj hD2 hp0);have npr:p≠ra:=Ne.symm (aj hra2 hp0);have hpH:H p=none:=by
     cases q:H p with
     |none=>rfl
     |some o=>
      by_cases hpr:p=ra
      .exact absurd hpr npr
      .rw[b2 p o q hpr]at hp0;cases hp0
    walk_at"rd";refine fQ hD4 (by rw[length_append,length_map,length_map,length_take,sizeLine_eq];omega) ?_;walk_at"rd";refine⟨_,j'+1+m,rs++[p],done++[r'.take m],xs2,rfl,λb o hb nb=>?_,?_,hlen,?_,?_,?_,?_,?_,?_⟩
    .rw[ah (aj hb hD)];exact b3 b o (b2 b o hb nb) nb
    .rw[ah nrD];exact hra4
    .rw[ac,map_append,List.append_assoc];rfl
    .refine fh (aK hp2 λa ha c hc=>?_) ?_
     .show upd _ _ _ _=_;rw[ah (hrs a ha).2.1];exact b3 _ _ hc (hrs a ha).2.2
     .show upd _ _ _ _=_;rw[ah npD,er'];exact hl4
    .intro r hr';rcases mem_append.mp hr' with q|q
     .exact hrs r q
     .rw[mem_singleton.mp q];exact⟨hpH,npD,npr⟩
    .rw[length_append];exact succ_le_succ hrl
    .rw[er',List.drop_drop]at hrw2;exact hrw2
    .rw[hxs,List.append_assoc];rfl
   .rintro σ H2 ⟨z3,j',rs,done,xs',rfl,b2,hra2,hj',hD2,hp2,hrs,hrl,hrw,hxs⟩;rw[Nat.sub_self]at hrw;have e:some (([]:List (List Int)),ns.drop j')=some (xs',t):=hrw;cases e;rw[append_nil]at hxs;subst hxs;walk_at"rd";exact kk _ D rs j' hD b2 hra2 hj' rfl hD2 hp2 λr hr'=>⟨(hrs r hr').1,(hrs r hr').2.1⟩
theorem AU {H:Hp}{a:Addr}{o:HO}(h:H a=some o):upd H a o=H:=by
 funext b;unfold upd;by_cases e:b=a
 .rw[if_pos e,e,h]
 .rw[if_neg e]
inductive uQ (C:Addr)(vs:List V)(H:Hp)(Q:VK)(E:XK):Prop
 |mk (x dx:Addr)(a b c:Int)(_:vs=[.ref x,.int a,.int b,.int c])(_:H x=some (.ins C dx []))(_:Q .non (upd H x (.ins C dx (zo a b c))))
theorem kz {f C:Addr}{fd:FuncData}(F:fX K "__init__" "Rates.__init__" dU f fd)(T:FN K C):aG P w K mg base bO 1 f fd ["self","kilogram","piece","mile"] (uQ C):=by
 refine F.ok lq (λvs H Q E h=>?_) (λcdv A outer s H vs Q E hr h=>?_)
 .obtain⟨_,_,_,_,_,rfl,_⟩:=h
  rfl
 .obtain⟨x,dx,a,b,c,rfl,hx,k⟩:=h;have cl:=T.cl;refine⟨_,(ae (bp (pv 0) (pv 1) rfl) (ae (bp (pv 0) (pv 2) rfl) (ai (bp (pv 0) (pv 3) rfl)))),?_⟩;walk_at"prep";walk_at"rd";refine⟨_,_,_,_,rfl,hx,cl,T.n_kilogram,lb rfl,?_⟩;walk_at"rd";refine⟨_,_,_,_,rfl,ac,cl,T.n_piece,lb rfl,?_⟩;walk_at"rd";refine⟨_,_,_,_,rfl,ac,cl,T.n_mile,lb rfl,?_⟩;rw[bH,bH];exact k
def nG (x:Vbpoal.Statement):List (Str×V):=[("sender",.int x.from_),("receiver",.int x.to),("day",.int x.day),("full",.int x.full),("state",.int x.state),("since",.int x.since),("figure",.int x.figure)]
structure E6 (K:PySem.W.Frag)(mg:Str->Option Value)(C:Addr):Prop where
 cl:lS K C
 n_sender:aN K C "sender"
 n_receiver:aN K C "receiver"
 n_day:aN K C "day"
 n_full:aN K C "full"
 n_state:aN K C "state"
 n_since:aN K C "since"
 n_figure:aN K C "figure"
 g_SENT:∃t,mg "SENT"=some (.int 1 t)
 g_DISPUTED:∃t,mg "DISPUTED"=some (.int 2 t)
 g_AGREED:∃t,mg "AGREED"=some (.int 3 t)
 g_DAYS_OF_SILENCE:∃t,mg "DAYS_OF_SILENCE"=some (.int 60 t)
 g_DAYS_OF_DISPUTE:∃t,mg "DAYS_OF_DISPUTE"=some (.int 90 t)
inductive AV (C:Addr)(vs:List V)(H:Hp)(Q:VK)(E:XK):Prop
 |mk (x dx:Addr)(a b d n:Nat)(_:vs=[.ref x,.int a,.int b,.int d,.int n])(_:H x=some (.ins C dx []))(_:Q .non (upd H x (.ins C dx (nG ⟨a,b,d,n,1,0,0⟩))))
theorem lI {f C:Addr}{fd:FuncData}(F:fX K "__init__" "Statement.__init__" cN f fd)(T:E6 K mg C):aG P w K mg base bO 1 f fd ["self","sender","receiver","day","full"] (AV C):=by
 refine F.ok jm (λvs H Q E h=>?_) (λcdv A outer s H vs Q E hr h=>?_)
 .obtain⟨_,_,_,_,_,_,rfl,_⟩:=h
  rfl
 .obtain⟨x,dx,a,b,d,n,rfl,hx,k⟩:=h;have cl:=T.cl;refine⟨_,(ae (bp (pv 0) (pv 1) rfl) (ae (bp (pv 0) (pv 2) rfl) (ae (bp (pv 0) (pv 3) rfl) (ae (bp (pv 0) (pv 4) rfl) (ae (bp (pv 0) (aS T.g_SENT) rfl) (ae (bp (pv 0) al rfl) (ai (bp (pv 0) al rfl)))))))),?_⟩;walk_at"prep";walk_at"rd";refine⟨_,_,_,_,rfl,hx,cl,T.n_sender,lb rfl,?_⟩;walk_at"rd";refine⟨_,_,_,_,rfl,ac,cl,T.n_receiver,lb rfl,?_⟩;walk_at"rd";refine⟨_,_,_,_,rfl,ac,cl,T.n_day,lb rfl,?_⟩;walk_at"rd";refine⟨_,_,_,_,rfl,ac,cl,T.n_full,lb rfl,?_⟩;walk_at"rd";refine⟨_,_,_,_,rfl,ac,cl,T.n_state,lb rfl,?_⟩;walk_at"rd";refine⟨_,_,_,_,rfl,ac,cl,T.n_since,lb rfl,?_⟩;walk_at"rd";refine⟨_,_,_,_,rfl,ac,cl,T.n_figure,lb rfl,?_⟩;rw[bH,bH,bH,bH,bH,bH];exact k
inductive sI (C:Addr)(vs:List V)(H:Hp)(Q:VK)(E:XK):Prop
 |mk (a dx:Addr)(x:Vbpoal.Statement)(n:Nat)(_:vs=[.ref a,.int n])(_:H a=some (.ins C dx (nG x)))(_:Q .non (upd H a (.ins C dx (nG { x with state:=3,figure:=n }))))
theorem hU {f C:Addr}{fd:FuncData}(F:fX K "agree_on" "Statement.agree_on" cO f fd)(T:E6 K mg C):aG P w K mg base bO 1 f fd ["self","figure"] (sI C):=by
 refine F.ok jn (λvs H Q E h=>?_) (λcdv A outer s H vs Q E hr h=>?_)
 .obtain⟨_,_,_,_,rfl,_⟩:=h
  rfl
 .obtain⟨a,dx,x,n,rfl,ha,k⟩:=h;have cl:=T.cl;refine⟨_,(ae (bp (pv 0) (aS T.g_AGREED) rfl) (ai (bp (pv 0) (pv 1) rfl))),?_⟩;walk_at"prep";walk_at"rd";refine⟨_,_,_,_,rfl,ha,cl,T.n_state,lb rfl,?_⟩;walk_at"rd";refine⟨_,_,_,_,rfl,ac,cl,T.n_figure,lb rfl,?_⟩;rw[bH];exact k
inductive CL (C:Addr)(vs:List V)(H:Hp)(Q:VK)(E:XK):Prop
 |mk (a dx:Addr)(x:Vbpoal.Statement)(d n:Nat)(_:vs=[.ref a,.int d,.int n])(_:H a=some (.ins C dx (nG x)))(_:Q .non (upd H a (.ins C dx (nG { x with state:=2,since:=d,figure:=n }))))
theorem mC {f C:Addr}{fd:FuncData}(F:fX K "dispute_since" "Statement.dispute_since" cF f fd)(T:E6 K mg C):aG P w K mg base bO 1 f fd ["self","day","other"] (CL C):=by
 refine F.ok gt (λvs H Q E h=>?_) (λcdv A outer s H vs Q E hr h=>?_)
 .obtain⟨_,_,_,_,_,rfl,_⟩:=h
  rfl
 .obtain⟨a,dx,x,d,n,rfl,ha,k⟩:=h;have cl:=T.cl;refine⟨_,(ae (bp (pv 0) (aS T.g_DISPUTED) rfl) (ae (bp (pv 0) (pv 1) rfl) (ai (bp (pv 0) (pv 2) rfl)))),?_⟩;walk_at"prep";walk_at"rd";refine⟨_,_,_,_,rfl,ha,cl,T.n_state,lb rfl,?_⟩;walk_at"rd";refine⟨_,_,_,_,rfl,ac,cl,T.n_since,lb rfl,?_⟩;walk_at"rd";refine⟨_,_,_,_,rfl,ac,cl,T.n_figure,lb rfl,?_⟩;rw[bH,bH];exact k
inductive v5 (C:Addr)(vs:List V)(H:Hp)(Q:VK)(E:XK):Prop
 |mk (a dx:Addr)(x:Vbpoal.Statement)(n:Nat)(_:vs=[.ref a,.int n])(_:H a=some (.ins C dx (nG x)))(_:Q (.int (meanOf x.full n:Nat)) H)
theorem lJ {f C:Addr}{fd:FuncData}(F:fX K "mean_with" "Statement.mean_with" cC f fd)(T:E6 K mg C):aG P w K mg base bO 1 f fd ["self","other"] (v5 C):=by
 refine F.ok iO (λvs H Q E h=>?_) (λcdv A outer s H vs Q E hr h=>?_)
 .obtain⟨_,_,_,_,rfl,_⟩:=h
  rfl
 .obtain⟨a,dx,x,n,rfl,ha,k⟩:=h;refine⟨_,(ai (ao (aL BZ (aL cD (am (pv 0) rfl) (pv 1)) al))),?_⟩;walk_at"prep";walk_at"rd";refine⟨_,_,_,_,_,rfl,ha,T.cl,T.n_full,rfl,?_⟩;walk_at"rd";refine gF ⟨by decide,by decide⟩ ?_;have e:((x.full:Int)+(n:Int)) / 2=((meanOf x.full n:Nat):Int):=by show _=(((x.full+n) / 2:Nat):Int);omega
  rw[e];exact k
inductive FP (C:Addr)(vs:List V)(H:Hp)(Q:VK)(E:XK):Prop
 |mk (a dx:Addr)(x:Vbpoal.Statement)(d:Nat)(_:vs=[.ref a,.int d])(_:H a=some (.ins C dx (nG x)))(_:Q .non (upd H a (.ins C dx (nG (aged d x)))))
theorem mD {f C fa fm:Addr}{fd fda fdm:FuncData}(F:fX K "agree_by_time" "Statement.agree_by_time" cG f fd)(T:E6 K mg C)(m_a:lT K C "agree_on" "Statement.agree_on" cO ["self","figure"] fa fda)(m_m:lT K C "mean_with" "Statement.mean_with" cC ["self","other"] fm fdm) :
  aG P w K mg base bO 2 f fd ["self","today"] (FP C):=by
 have G1:aG P w K mg base bO 1 fa fda ["self","figure"] (sI C):=hU m_a.fn T;have G2:aG P w K mg base bO 1 fm fdm ["self","other"] (v5 C):=lJ m_m.fn T;refine F.ok gu (λvs H Q E h=>?_) (λcdv A outer s H vs Q E hr h=>?_)
 .obtain⟨_,_,_,_,rfl,_⟩:=h
  rfl
 .obtain⟨a,dx,x,d,rfl,ha,k⟩:=h;have cl:=T.cl;refine⟨_,(ai (bg (PW.pt (eC (ay dH (am (pv 0) rfl) (aS T.g_SENT) (aB _)) (dQ (ay qu (aL d5 (pv 1) (am (pv 0) rfl)) (aS T.g_DAYS_OF_SILENCE) (aB _))))) (ai (aV (cj (pv 0) cl m_a G1 hr (ab (am (pv 0) rfl) af)))) (ai (bg (PW.pt (eC (ay dH (am (pv 0) rfl) (aS T.g_DISPUTED) (aB _)) (dQ (ay qu (aL d5 (pv 1) (am (pv 0) rfl)) (aS T.g_DAYS_OF_DISPUTE) (aB _))))) (ai (aV (cj (pv 0) cl m_a G1 hr (ab (cj (pv 0) cl m_m G2 hr (ab (am (pv 0) rfl) af)) af)))) aE)))),?_⟩;have second:¬(x.state=1/\x.day+60<=d)->∀D:jj,D.nx=(λ_ H'=>Q .non H')->BU (D7 (oJ (vp F9 (tU K (fK 0) "state") (tC (.int 2)))) (oJ (vp (vq λi j=>.bl (decide (j<=i))) (vp (vq λi j=>.int (i-j)) (fK 1) (tU K (fK 0) "since")) (tC (.int 90)))))
    (zD (FD C "agree_on" (sI C) (fK 0) (gq (FD C "mean_with" (v5 C) (fK 0) (gq (tU K (fK 0) "figure") jk)) jk))) wO D [some (.ref a),some (.int d)] H:=by
   intro h1 D hD;have stay:¬(x.state=2/\x.since+90<=d)->Q .non H:=λh2=>by
    have e:aged d x=x:=by unfold aged;rw[if_neg (show¬(x.state=1/\x.day+Vbpoal.SILENT<=d)from h1),if_neg (show¬(x.state=2/\x.since+Vbpoal.OPEN<=d)from h2)]
    rw[e,AU ha]at k;exact k
   walk_at"rd";refine⟨_,_,_,_,_,rfl,ha,cl,T.n_state,rfl,?_⟩;walk_at"rd";refine aY (λh2=>?_) (λh2=>?_)
   .walk_at"rd";refine⟨_,_,_,_,_,rfl,ha,cl,T.n_since,rfl,?_⟩;walk_at"rd";refine aY (λh3=>?_) (λh3=>?_)
    .walk_at"rd";refine⟨_,_,_,rfl,ha,rfl,?_⟩;walk_at"rd";refine⟨_,_,_,rfl,ha,rfl,?_⟩;walk_at"rd";refine⟨_,_,_,_,_,rfl,ha,cl,T.n_figure,rfl,?_⟩;walk_at"rd";refine⟨a,dx,x,x.figure,rfl,ha,?_⟩;walk_at"rd";refine⟨a,dx,x,_,rfl,ha,?_⟩;have e:aged d x={ x with state:=3,figure:=meanOf x.full x.figure }:=by unfold aged;rw[if_neg (show¬(x.state=1/\x.day+Vbpoal.SILENT<=d)from h1),if_pos ⟨by omega,by show x.since+90<=d;omega⟩]
     rw[e]at k;show D.nx _ _;rw[hD];exact k
    .show D.nx _ _;rw[hD];exact stay λq=>h3 (by omega)
   .refine jz ?_;show D.nx _ _;rw[hD];exact stay λq=>h2 (by omega)
  walk_at"prep";refine Ew ?_;walk_at"rd";refine⟨_,_,_,_,_,rfl,ha,cl,T.n_state,rfl,?_⟩;walk_at"rd";refine aY (λh1=>?_) (λh1=>?_)
  .walk_at"rd";refine⟨_,_,_,_,_,rfl,ha,cl,T.n_day,rfl,?_⟩;walk_at"rd";refine aY (λh2=>?_) (λh2=>?_)
   .walk_at"rd";refine⟨_,_,_,rfl,ha,rfl,?_⟩;walk_at"rd";refine⟨_,_,_,_,_,rfl,ha,cl,T.n_full,rfl,?_⟩;walk_at"rd";refine⟨a,dx,x,x.full,rfl,ha,?_⟩;have e:aged d x={ x with state:=3,figure:=x.full }:=by unfold aged;rw[if_pos ⟨by omega,by show x.day+60<=d;omega⟩]
    rw[e]at k;exact k
   .exact second (λq=>h2 (by omega)) { nx:=λ_ H'=>Q .non H',rt:=Q } rfl
  .refine jz ?_;exact second (λq=>h1 (by omega)) { nx:=λ_ H'=>Q .non H',rt:=Q } rfl
theorem yL {shape:Int->Option (Nat×Nat)}{f:Nat}{p:Int}{r:List Int}{cs:List (List (List Int))}(h:PyFlat.calls shape f (p::r)=some cs) :
  ∃(f' n k:Nat) (xs:List (List Int)) (t:List Int) (cs':List (List (List Int))),shape p=some (n,k)/\n<=r.length/\PyFlat.rows k (r.drop n)=some (xs,t)/\PyFlat.calls shape f' t=some cs'/\cs=((p::r.take n)::xs)::cs':=by
 cases f with
 |zero=>cases h
 |succ f=>
  have h1:(match PyFlat.call shape (p::r)with|none=>none|some (c,t)=>match PyFlat.calls shape f t with|none=>none|some cs=>some (c::cs))=some cs:=h;have e:PyFlat.call shape (p::r)=(match shape p with|none=>none|some (n,k)=>if r.length<n then none else match PyFlat.rows k (r.drop n)with|none=>none|some (xs,t)=>some ((p::r.take n)::xs,t)):=rfl;cases hs:shape p with
  |none=>rw[e,hs]at h1;cases h1
  |some q=>
   obtain⟨n,k⟩:=q;rw[e,hs]at h1;by_cases hn:r.length<n
   .have h2:(match (if r.length<n then none else match PyFlat.rows k (r.drop n)with|none=>none|some (xs,t)=>some ((p::r.take n)::xs,t))with|none=>none|some (c,t)=>match PyFlat.calls shape f t with|none=>none|some cs=>some (c::cs))=some cs:=h1;rw[if_pos hn]at h2;cases h2
   .have h2:(match (if r.length<n then none else match PyFlat.rows k (r.drop n)with|none=>none|some (xs,t)=>some ((p::r.take n)::xs,t))with|none=>none|some (c,t)=>match PyFlat.calls shape f t with|none=>none|some cs=>some (c::cs))=some cs:=h1;rw[if_neg hn]at h2;cases hr:PyFlat.rows k (r.drop n)with
    |none=>rw[hr]at h2;cases h2
    |some y=>
     obtain⟨xs,t⟩:=y;rw[hr]at h2;have h3:(match PyFlat.calls shape f t with|none=>none|some cs=>some (((p::r.take n)::xs)::cs))=some cs:=h2;cases hc:PyFlat.calls shape f t with
     |none=>rw[hc]at h3;cases h3
     |some cs'=>
      rw[hc]at h3;cases h3;exact⟨f,n,k,xs,t,cs',rfl,by omega,hr,hc,rfl⟩
theorem yM {shape:Int->Option (Nat×Nat)}{f:Nat}{cs:List (List (List Int))}(h:PyFlat.calls shape f []=some cs):cs=[]:=by
 cases f with
 |zero=>cases h;rfl
 |succ f=>cases h;rfl
theorem AW (c:List (List Int)):PyVbpoal.whole c=c:=by
 rcases c with _|⟨_|⟨k,xs⟩,t⟩<;>try rfl
 rcases k with(_|_|_|_|_|_|_|_|_|_|_|_|_|_|_|_|_|_|_|_|_)|_<;>first|rfl|(rcases xs with _|⟨_,_|⟨_,_|⟨_,_|⟨_,_|_⟩⟩⟩⟩<;>first|rfl|(rcases t with _|⟨_,_|_⟩<;>rfl))
theorem qY (cs:List (List (List Int))):cs.map PyVbpoal.whole=cs:=by have e:PyVbpoal.whole=id:=funext AW;rw[e,map_id]
theorem v6 {l:List Int}{cs:List (List (List Int))}(h:PyFlat.calls PyVbpoal.shape l.length l=some cs):PyVbpoal.answers l=PyFlat.told (PyFlat.played VbpoalNeutral.step VbpoalNeutral.start cs):=by unfold PyVbpoal.answers PyVbpoal.calls;rw[h];show PyFlat.told (PyFlat.played VbpoalNeutral.step VbpoalNeutral.start (cs.map PyVbpoal.whole))=_;rw[qY]
structure DW (l:List Int)(cs:List (List (List Int))):Prop where
 dec:PyFlat.calls PyVbpoal.shape l.length l=some cs
 ne:cs≠[]
 most:cs.length<=400
 one:∀c∈cs,VbpoalNeutral.asked1 c=true
 part:(cs.filter VbpoalNeutral.parts).length<=40
theorem AX {l:List Int}(h:PyVbpoal.answers_asked l=true):∃cs,DW l cs:=by
 unfold PyVbpoal.answers_asked at h;cases e:PyFlat.calls PyVbpoal.shape l.length l with
 |none=>rw[e]at h;cases h
 |some raw=>
  rw[e]at h;have h1:(!raw.isEmpty&&PyFlat.atMost 400 raw&&PyInside.calls PyVbpoal.bound raw&&asked (raw.map PyVbpoal.whole)&&PyFlat.short 10000000 (PyVbpoal.answers l))=true:=h;rw[qY]at h1;simp only[and_eq_true]at h1;obtain⟨⟨⟨⟨h2,h3⟩,h4⟩,h5⟩,h6⟩:=h1;have h7:(raw.all VbpoalNeutral.asked1&&(decide (1<=raw.length)&&decide (raw.length<=400))&&decide ((raw.filter VbpoalNeutral.parts).length<=40))=true:=h5;simp only[and_eq_true,decide_eq_true_eq]at h7;refine⟨raw,e,?_,h7.1.2.2,all_eq_true.mp h7.1.1,h7.2⟩;intro q;rw[q]at h2;cases h2
theorem uR:∀{b:List Int},(∀z∈b,0<=z/\z<=255)->∃bs:Bytes,bytes? b=some bs/\br bs=b
 |[],_=>⟨[],rfl,rfl⟩
 |z::b,h=>by
  obtain⟨bs,e1,e2⟩:=uR (b:=b) λy hy=>h y (mem_cons_of_mem _ hy);have hz:=h z (mem_cons_self ..);refine⟨UInt8.ofNat z.toNat::bs,?_,?_⟩
  .unfold bytes? at e1 ⊢;rw[List.mapM_cons];have e3:VbpoalNeutral.byte? z=some (UInt8.ofNat z.toNat):=if_pos hz;rw[e3,e1]
   rfl
  .show((UInt8.ofNat z.toNat).toNat:Int)::br bs=z::b;rw[e2]
   congr 1
   have:(UInt8.ofNat z.toNat).toNat=z.toNat:=by rw[UInt8.toNat_ofNat'];exact Nat.mod_eq_of_lt (by omega)
   rw[this];omega
theorem xC {b:List Int}(h:(b.all (λ(z:Int)=>VbpoalNeutral.natural z 8)&&decide (b.length<=2000))=true):∃bs:Bytes,bytes? b=some bs/\br bs=b/\bs.length=b.length/\b.length<=2000:=by
 rw[and_eq_true,decide_eq_true_eq]at h;obtain⟨bs,e1,e2⟩:=uR (b:=b) λz hz=>by have q:(decide (0<=z)&&decide (z<2^8))=true:=all_eq_true.mp h.1 z hz;rw[and_eq_true,decide_eq_true_eq,decide_eq_true_eq]at q;omega
 refine⟨bs,e1,e2,?_,h.2⟩;rw[<- e2];exact(length_map _).symm
end Pc
namespace HT
open PyProof.Rows
open PySem.SeqAt
open PySem.AutoSeq1 (wpAny_loadPart')
open PySem.MeetsSeq PySem.MeetsSeq2 PySem.MeetsSeq3
theorem xD {vs:List Value}{ns:List Int}(h:IntsAre vs ns):∀{i:Nat} {v:Value},vs[i]?=some v->∃n t,ns[i]?=some n/\v = .int n t:=by
 induction h with
 |nil=>intro i v e;simp at e
 |cons a t _ ih=>
  intro i v e;cases i with
  |zero=>simp at e;exact⟨_,_,rfl,e.symm⟩
  |succ i=>exact ih (by simpa using e)
theorem yN (l b:Addr)(items items2:Array Value)(n n2:Nat)(dd dd2:Option Addr)(sl sl2:Array (Option Value))(ns ms:List Int)(hi:IntsAre items.toList ns)(hj:IntsAre items2.toList ms)(k:Nat) :
  ∀i:Nat,min items.size items2.size-i=k->i<=min items.size items2.size->Meets (Builtin.«list.__eq__.loop» ⟨[.ref l,.ref b,rawInt i,rawInt 0],[]⟩)
   (λA R s=>s.heap.get? l=some { cls:=.type "list",dict:=dd,data:=.seq items n,slots:=sl }/\s.heap.get? b=some { cls:=.type "list",dict:=dd2,data:=.seq items2 n2,slots:=sl2 }/\ R (.ok (.ret (.bool (lexLt (ns.drop i) (ms.drop i))))) s):=by
 have z1:items.size=ns.length:=by rw[<- hi.length];simp
 have z2:items2.size=ms.length:=by rw[<- hj.length];simp
 induction k with
 |zero=>
  intro i hk hle prog w A R s h;obtain⟨hp,g,d,tk,os⟩:=s;obtain⟨hl,hb,h⟩:=h
  wp_walk using wpAny_loadPart' hl,wpAny_loadPart' hb
  have fin:lexLt (ns.drop i) (ms.drop i)=decide (items.size<items2.size):=by
   by_cases h1:items.size<=i
   .have e1:ns.drop i=[]:=List.drop_of_length_le (by omega);rw[e1];cases e2:ms.drop i with
    |nil=>
     have:ms.length<=i:=by have:=congrArg List.length e2;simp at this;omega
     rw[pT];exact(decide_eq_false (by omega)).symm
    |cons y r=>
     have:i<ms.length:=by have:=congrArg List.length e2;simp at this;omega
     rw[oN];exact(decide_eq_true (by omega)).symm
   .have e1:ms.drop i=[]:=List.drop_of_length_le (by omega);rw[e1];cases e2:ns.drop i with
    |nil=>have:=congrArg List.length e2;simp at this;omega
    |cons y r=>rw[oO];exact(decide_eq_false (by omega)).symm
  rw[fin]at h;by_cases h1:items.size<=i
  .have hi1:items[((i:Nat):Int).toNat]?=none:=by simp;omega
   rw[hi1]
   wp_walk using wpAny_loadPart' hl,wpAny_loadPart' hb
   exact h
  .have hi2:items2[((i:Nat):Int).toNat]?=none:=by simp;omega
   have hi1:items[((i:Nat):Int).toNat]?=some items[i]:=by simp
   rw[hi1,hi2]
   wp_walk using wpAny_loadPart' hl,wpAny_loadPart' hb
   exact h
 |succ k ih=>
  intro i hk hle prog w A R s h;obtain⟨hp,g,d,tk,os⟩:=s;obtain⟨hl,hb,h⟩:=h
  wp_walk using wpAny_loadPart' hl,wpAny_loadPart' hb
  have hlt:i<items.size:=by omega
  have hlt2:i<items2.size:=by omega
  have hi1:items[((i:Nat):Int).toNat]?=some items[i]:=by simp[hlt]
  have hi2:items2[((i:Nat):Int).toNat]?=some items2[i]:=by simp[hlt2]
  obtain⟨x,t,hx,ex⟩:=xD hi (i:=i) (v:=items[i]) (by simp[hlt]);obtain⟨y,u,hy,ey⟩:=xD hj (i:=i) (v:=items2[i]) (by simp[hlt2]);have d1:ns.drop i=x::ns.drop (i+1):=by obtain⟨q1,q2⟩:=List.getElem?_eq_some_iff.mp hx;rw[List.drop_eq_getElem_cons q1,q2]
  have d2:ms.drop i=y::ms.drop (i+1):=by obtain⟨q1,q2⟩:=List.getElem?_eq_some_iff.mp hy;rw[List.drop_eq_getElem_cons q1,q2]
  have hc:((i:Int)+1)=((i+1:Nat):Int):=by push_cast;rfl
  rw[d1,d2,lexLt_cons]at h;rw[hi1,hi2,ex,ey];obtain⟨e,he,hiff⟩:=tX A.in1 ⟨hp,g,d,tk,os⟩ x t y u;refine wpAny_bind (he prog w _ _ ?_);cases e with
  |true=>
   rw[if_pos (hiff.mp rfl)]at h
   wp_walk
   rw[hc];exact⟨plainId_quiet plain_eq_loop _,codeAny_builtin entry_eq_loop (by
    rw[Around.under_plainId plain_eq_loop _];exact ih (i+1) (by omega) (by omega) prog w A R _ ⟨hl,hb,h⟩)⟩
  |false=>
   rw[if_neg (λq=>absurd (hiff.mpr q) Bool.false_ne_true)]at h;have hri:=tY A.in1 ⟨hp,g,d,tk,os⟩ x t y u prog w
   wp_walk using wpAny_loadPart' hl,wpAny_loadPart' hb
   rw[hi1,hi2,ex,ey]
   wp_walk using hri
   exact h
theorem sJ (l b:Addr)(items items2:Array Value)(n n2:Nat)(dd dd2:Option Addr)(sl sl2:Array (Option Value))(ns ms:List Int)(hi:IntsAre items.toList ns)(hj:IntsAre items2.toList ms) :
  Meets (Builtin.«list.__lt__» ⟨[.ref l,.ref b],[]⟩)
   (λA R s=>s.heap.get? l=some { cls:=.type "list",dict:=dd,data:=.seq items n,slots:=sl }/\s.heap.get? b=some { cls:=.type "list",dict:=dd2,data:=.seq items2 n2,slots:=sl2 }/\ R (.ok (.ret (.bool (lexLt ns ms)))) s):=by
 intro prog w A R s h;obtain⟨hp,g,d,tk,os⟩:=s;obtain⟨hl,hb,h⟩:=h;have f3:=AutoSeq1.sub_list_list
 wp_walk using wpAny_loadPart' hl,wpAny_loadPart' hb
 exact⟨plainId_quiet plain_eq_loop _,codeAny_builtin entry_eq_loop (by
  rw[Around.under_plainId plain_eq_loop _];exact yN l b items items2 n n2 dd dd2 sl sl2 ns ms hi hj _ 0 rfl (zero_le _) prog w A R _ ⟨hl,hb,h⟩)⟩
section
variable {prog:Program}{w:World}{A:Around}{E:Value->Shared->Prop}{s:Shared}
theorem uS {l b:Addr}{items items2:Array Value}{n n2:Nat}{ns ms:List Int}{Q:Value->Shared->Prop}(hl:s.heap.get? l=some { cls:=.type "list",data:=.seq items n })(hb:s.heap.get? b=some { cls:=.type "list",data:=.seq items2 n2 })
  (hi:IntsAre items.toList ns) (hj:IntsAre items2.toList ms) (hu:A.units<cLine) (h:Q (.bool (lexLt ns ms)) s):wpAny (model prog w) A (richCompare .Lt (.ref l) (.ref b)) Q E s:=
 richCompare_meets_room (op:=.Lt) ⟨_,hl,rfl⟩ ⟨_,hb,rfl⟩ PySem.F.slot_list_lt PySem.F.entry_list_lt (PySem.F.args_list_lt_2 _ _) (sJ l b items items2 n n2 none none #[] #[] ns ms hi hj)
  ⟨hl,hb,show Value.bool (lexLt ns ms)≠Value.notImplemented/\Q (.bool (lexLt ns ms)) s from⟨(λx=>nomatch x),h⟩⟩ hu
end
inductive Lx (A:Around)(s:Shared):List Value->List Value->Bool->Prop
 |nn:Lx A s [] [] false
 |nc (y:Value) (ys:List Value):Lx A s [] (y::ys) true
 |cn (x:Value) (xs:List Value):Lx A s (x::xs) [] false
 |eq {x y:Value} {xs ys:List Value} {r:Bool}:EqAt A s x y true->Lx A s xs ys r->Lx A s (x::xs) (y::ys) r
 |ne {x y:Value} {xs ys:List Value} {r:Bool}:EqAt A s x y false->(∀(prog:Program) (w:World) (E:Value->Shared->Prop) (Q:Value->Shared->Prop),Q (.bool r) s->wpAny (model prog w) A (richCompare .Lt x y) Q E s)->Lx A s (x::xs) (y::ys) r
theorem v7 (l b:Addr)(items items2:Array Value)(n n2:Nat)(dd dd2:Option Addr)(sl sl2:Array (Option Value))(r:Bool) :
  Meets (Builtin.«tuple.__lt__» ⟨[.ref l,.ref b],[]⟩)
   (λA R s=>s.heap.get? l=some { cls:=.type "tuple",dict:=dd,data:=.seq items n,slots:=sl }/\s.heap.get? b=some { cls:=.type "tuple",dict:=dd2,data:=.seq items2 n2,slots:=sl2 }/\ Lx A.in1 s items.toList items2.toList r/\R (.ok (.ret (.bool r))) s):=
 .of_wp λprog w A R s h=>by
  obtain⟨hp,g,d,tk,os⟩:=s;obtain⟨hl,hb,hx,h⟩:=h;have f2:=AutoSeq1.sub_tuple_tuple
  wp_walk using wpAny_loadPart' hl,wpAny_loadPart' hb,wpAny_forIn_list _ (λrest b s'=>b.1=none/\s'=⟨hp,g,d,tk,os⟩/\∃(vs ws:List Value),rest=vs.zip ws/\ vs.length+items2.size=ws.length+items.size/\Lx A.in1 ⟨hp,g,d,tk,os⟩ vs ws r) _
  case turn=>
   rintro⟨y,x⟩ rest b s' ⟨hb',rfl,vs,ws,hz,hlen,hL⟩;cases hL with
   |nn=>rw[List.zip_nil_left]at hz;cases hz
   |nc=>rw[List.zip_nil_left]at hz;cases hz
   |cn=>rw[List.zip_nil_right]at hz;cases hz
   |eq he hr=>
    rw[List.zip_cons_cons]at hz;injection hz with hyx hrest;injection hyx with hy hx;subst hy hx;simp only[length_cons]at hlen;refine wpAny_bind (he prog w _ _ ?_)
    wp_walk
    exact⟨rfl,rfl,_,_,hrest,by omega,hr⟩
   |ne he hri=>
    rw[List.zip_cons_cons]at hz;injection hz with hyx hrest;injection hyx with hy hx;subst hy hx;refine wpAny_bind (he prog w _ _ ?_)
    wp_walk using hri prog w
    exact⟨_,rfl,by simpa using h⟩
  case fin=>
   rintro⟨b1,b2⟩ s' ⟨hb',rfl,vs,ws,hz,hlen,hL⟩;simp only at hb';subst hb';have hv:r=decide (items.size<items2.size):=by
    cases hL with
    |nn=>simp only[List.length_nil]at hlen;exact(decide_eq_false (by omega)).symm
    |nc=>simp only[List.length_nil,length_cons]at hlen;exact(decide_eq_true (by omega)).symm
    |cn=>simp only[List.length_nil,length_cons]at hlen;exact(decide_eq_false (by omega)).symm
    |eq=>rw[List.zip_cons_cons]at hz;cases hz
    |ne=>rw[List.zip_cons_cons]at hz;cases hz
   rw[hv]at h
   wp_walk
   exact⟨_,rfl,by simpa [Builtin.Tuple.tupleCompareSizes]using h⟩
  case h=>
   exact⟨rfl,rfl,items.toList,items2.toList,rfl,by simp;omega,hx⟩
section
variable {prog:Program}{w:World}{A:Around}{E:Value->Shared->Prop}{s:Shared}
theorem lexLt_irr:∀l:List Int,lexLt l l=false
 |[]=>rfl
 |x::l=>by rw[lexLt_cons,if_pos rfl];exact lexLt_irr l
theorem lt_keys {l b g g':Addr}{its its2:Array Value}{n n2:Nat}{a c:Int}{t u:Tok}{ns ms:List Int}{as bs:List Addr}{Q:Value->Shared->Prop}(hl:IsTup s.heap l #[.int a t,.ref g])(hb:IsTup s.heap b #[.int c u,.ref g'])
  (h1:s.heap.get? g=some { cls:=.type "list",data:=.seq its n }) (h2:s.heap.get? g'=some { cls:=.type "list",data:=.seq its2 n2 }) (hi:IntsAre its.toList ns) (hj:IntsAre its2.toList ms)
  (r1:Reads s.heap (.ref g) (.list (ns.map PyData.int)) as) (r2:Reads s.heap (.ref g') (.list (ms.map PyData.int)) bs)
  (hu:A.units+100<cLine) (h:Q (.bool (lexLt (a::ns) (c::ms))) s):wpAny (model prog w) A (richCompare .Lt (.ref l) (.ref b)) Q E s:=by
 obtain⟨⟨cls,dd,data,sl⟩,ho,hc,m,hd⟩:=id hl;obtain⟨⟨cls2,dd2,data2,sl2⟩,ho2,hc2,m2,hd2⟩:=id hb;simp only at hc hd hc2 hd2;subst hc hd hc2 hd2;refine richCompare_meets_room (op:=.Lt) ⟨_,ho,rfl⟩ ⟨_,ho2,rfl⟩ PySem.F.slot_tuple_lt PySem.F.entry_tuple_lt (PySem.F.args_tuple_lt_2 _ _) (v7 l b _ _ m m2 dd dd2 sl sl2 (lexLt (a::ns) (c::ms)))
  ⟨ho,ho2,?_,show Value.bool _≠Value.notImplemented/\Q (.bool _) s from⟨(λx=>nomatch x),h⟩⟩ (by omega)
 show Lx A.in1 s [.int a t,.ref g] [.int c u,.ref g'] _;obtain⟨e,he,hiff⟩:=tX A.in1 s a t c u;rw[lexLt_cons];by_cases ea:a=c
 .rw[if_pos ea];have e1:e=true:=hiff.mpr ea;subst e1;refine .eq he ?_;have eq2:EqAt A.in1 s (.ref g) (.ref g') (decide (ns=ms)):=by have q:=eqAt_reads (.list (ns.map PyData.int)) (.list (ms.map PyData.int)) A.in1 s _ _ _ _ r1 r2 (canLay_of_shaped (ke_shaped_ints _)) (canLay_of_shaped (ke_shaped_ints _)) (room_of_shaped (ke_shaped_ints _) (by show A.units+1+64<cLine;omega));have e2:PyData.eqv (.list (ns.map PyData.int)) (.list (ms.map PyData.int))=decide (ns=ms):=PySem.W.ked_eqvAll ns ms;rw[e2]at q;exact q
  by_cases en:ns=ms
  .rw[decide_eq_true en]at eq2;rw[en,lexLt_irr];exact .eq eq2 .nn
  .rw[decide_eq_false en]at eq2;exact .ne eq2 λprog w E Q q=>uS h1 h2 hi hj (by show A.units+1<cLine;omega) q
 .rw[if_neg ea];have e1:e=false:=by
   cases e with
   |false=>rfl
   |true=>exact absurd (hiff.mp rfl) ea
  subst e1;exact .ne he λprog w E Q q=>tY A.in1 s a t c u prog w E Q q
end
end HT
namespace L2
open PyProof.Rows
abbrev Cx.lam (X:Cx)(s:Shared)(H:Hp)(env:Env):Cx:={ X with A:=X.A.in1.deeper env,s_0:=s,H_0:=H,env:=env,outer:=X.stack,stack:=env::X.stack,ex:=[],fn:=λ_=>false,calm:=true,pn:=[],xe:=λ_ _=>False }
structure pf (N:List Str)(sc scope:Scope)(x:Str)(j:Nat):Prop where
 kind:scope.kind = .function
 co:scope.isCoroutine=false
 gen:scope.isGenerator=false
 nc:∀y∈scope.names,y.2≠.cell
 uniq:∀y∈scope.names,scope.names.lookup y.1=some y.2
 ix:N[j]?=some x
 loc:scope.names.lookup x=some .local
 one:∀y∈scope.names,y.2 = .local->y.1=x
 free:∀y∈scope.names,y.2 = .free->sc.names.lookup y.1=some .cell\/sc.names.lookup y.1=some .free
abbrev mE (X:Cx)(qual:Str)(scope:Scope)(L q c':Addr):Env:=PySem.W.envX qual scope L q (.ref c') (be X.env.cells scope.names [])
section
variable {X:Cx}{pins:List (Addr×Obj)}{σ:St}{H:Hp}{s:Shared}{qual:Str}{scope:Scope}{x:Str}{j:Nat}
theorem qZ (I:aH X pins σ H s)(ok:pf X.N X.env.scope scope x j){y:Str}{c:Addr}(h:(y,c)∈be X.env.cells scope.names []):X.env.cells.lookup y=some c/\scope.names.lookup y=some .free:=by
 rcases fD h with h|⟨h1,rfl⟩
 .cases h
 .obtain⟨c,hc⟩:∃c,X.env.cells.lookup y=some c:=by
   rcases ok.free _ h1 rfl with k|k
   .exact I.ok.has _ (.inl k)
   .exact I.ok.has _ (.inr k)
  rw[hc];exact⟨rfl,ok.uniq _ h1⟩
theorem xE (I:aH X pins σ H s)(ok:pf X.N X.env.scope scope x j){y:Str}(h:scope.names.lookup y=some .free):∃c,(be X.env.cells scope.names []).lookup y=some c/\X.env.cells.lookup y=some c:=by obtain⟨c,e⟩:=iL (gM (cells:=X.env.cells) (acc:=[]) (PySem.mem_of_lookup h));exact⟨c,e,(qZ I ok (PySem.mem_of_lookup e)).1⟩
theorem yO {q c':Addr}{v:V}{u:Value}{h1:Heap}{tk:Nat}(I:aH X pins σ H s)(hcalm:X.calm=true)(hN:X.N.Nodup)(ok:pf X.N X.env.scope scope x j)(r:bI v u)
  (hns:h1.Ns s.heap.objs.size λy=>[(x,u)].reverse.lookup y) (hk:∀b o,s.heap.get? b=some o->h1.get? b=some o) :
  aH (X.lam s H (mE X qual scope s.heap.objs.size q c')) [] (σ.set j (some v)) H { s with heap:=h1,toks:=tk }:=by
 have cm:=λ{y c}=>qZ (y:=y) (c:=c) I ok;have lk:∀{y c},(mE X qual scope s.heap.objs.size q c').cells.lookup y=some c->X.env.cells.lookup y=some c/\scope.names.lookup y=some .free:=λ{y c} e=>cm (PySem.mem_of_lookup e);have noA:∀b:Addr,b∉(X.lam s H (mE X qual scope s.heap.objs.size q c')).ex:=λb z=>absurd (show b∈([]:List Addr)from z) (by simp);refine⟨⟨I.ok.mod,ok.kind,rfl,rfl,Nat.le_refl _,λy z c e1 e2=>I.ok.inj y z c (lk e1).1 (lk e2).1,λy hy=>?_,(λy c z _=>by cases z),λ_=>I.ok.hd hcalm,Around.frames_deeper I.ok.frames,.inr ⟨rfl,rfl⟩,λb z=>absurd z (noA b),I.bs,le_trans I.ok.bsz I.sz,λb _ _=>noA b,λb z=>absurd z (noA b),I.stack,I.stkFree⟩,rfl,I.bare,Un.kept hk,⟨_,hns,λi y w e1 e2 e3=>?_⟩,λy c e=>?_,I.hok.fresh (Nat.le_refl _),λy c e=>I.freeC y c (lk e).1,λp hp=>absurd (show p∈([]:List (Addr×Obj))++[]from hp) (by simp),I.hok.kept hk,by rw[length_set];exact I.len⟩
 .have key:∀kk,scope.names.lookup y=some kk->kk = .cell\/kk = .free->∃c,(be X.env.cells scope.names []).lookup y=some c:=λkk e hh=>by
   rcases hh with rfl|rfl
   .exact absurd rfl (ok.nc _ (PySem.mem_of_lookup e))
   .obtain⟨c,h1,_⟩:=xE I ok e;exact⟨c,h1⟩
  rcases hy with hy|hy
  .exact key _ hy (.inl rfl)
  .exact key _ hy (.inr rfl)
 .by_cases hij:i=j
  .subst hij;have ey:y=x:=by have q:=e1;rw[show X.N[i]?=some x from ok.ix]at q;exact(Option.some.inj q).symm
   subst ey;have hl:i<σ.length:=by rw[I.len];exact(List.getElem?_eq_some_iff.mp e1).1
   rw[List.getElem?_set_self hl]at e2;cases e2;refine⟨u,r,.inl ⟨ok.loc,?_⟩⟩;simp
  .rw[List.getElem?_set_ne (Ne.symm hij)]at e2;have e3:D5 scope y:=e3;have fr:scope.names.lookup y=some .free:=by
    rcases e3 with k|k|k
    .have e:y=x:=ok.one _ (PySem.mem_of_lookup k) rfl;rw[e]at e1;exact absurd (kY hN e1 ok.ix) hij
    .exact absurd rfl (ok.nc _ (PySem.mem_of_lookup k))
    .exact k
   have kX:=ok.free _ (PySem.mem_of_lookup fr) rfl;obtain⟨m,_,hl⟩:=I.loc;obtain⟨u',r',q'⟩:=hl i y w e1 e2 (kX.elim (λk=>.inr (.inl k)) λk=>.inr (.inr k));obtain⟨c,h1',h2'⟩:=xE I ok fr;refine⟨u',r',.inr ⟨.inr fr,c,h1',?_⟩⟩;rcases q' with⟨k,_⟩|⟨_,c2,e,z⟩
   .have k:X.env.scope.names.lookup y=some .local:=k;rcases kX with k'|k'<;>rw[show X.env.scope.names.lookup y=_ from k']at k<;>cases k
   .rw[h2']at e;cases e;exact z.keeps hk
 .obtain⟨w,z⟩:=I.cell y c (lk e).1;exact⟨w,z.keeps hk⟩
theorem AY {k:Nat}{params:Arguments}{body:Expr}{pm ctv:Value}{q c':Addr}{tb:TE}{v:V}{u:Value}{Q:VK}(I:aH X pins σ H s)(hcalm:X.calm=true)(hN:X.N.Nodup)(hr:dk (k+1) X.A)(ok:pf X.N X.env.scope scope x j)
  (hq:s.heap.get? q=some (kla_obj "<lambda>" qual params body scope (be X.env.cells scope.names []) pm c' ctv)) (hcd:s.heap.CodeRec (.ref c') qual)
  (hbind:∀(pm ctv:Value) (c':Addr) (u:Value),bindArgs (kla_fn "<lambda>" qual params body scope (be X.env.cells scope.names []) pm (.ref c') ctv) ⟨[u],[]⟩=pure [(x,u)])
  (hb:∀(s:Shared) (H:Hp) (L q c':Addr),PE (X.lam s H (mE X qual scope L q c')) body tb) (r:bI v u) (h:tb (σ.set j (some v)) H Q) :
  wpAny (model X.prog X.w) X.A.in1 (call (.ref q) [u]) (CE X.stack X.prog X.w H s Q) (λ_ _=>False) s:=by
 refine wpAny_call (codeAny_mono (PySem.W.kla_callFunE (R:=CR bO X.stack X.prog X.w H s Q E0) hr.in1.depth hq rfl ok.co ok.gen rfl hcd ?_) λr' s' hq'=>?_)
 .show wpAny _ _ (bindArgs (kla_fn "<lambda>" qual params body scope (be X.env.cells scope.names []) pm (.ref c') ctv) ⟨[u],[]⟩) _ _ _;rw[hbind];refine wpAny_pure (wpAny_newFunctionEnv ok.nc (λy hy=>?_) (λh1 hns hsb=>⟨I.nolimit.fresh _ hsb,?_⟩) ok.kind)
  .rw[mem_singleton.mp hy];exact ok.loc
  .show codeAny _ _ (.expr body (mE X qual scope s.heap.objs.size q c')) _ _;have hk:∀b o,s.heap.get? b=some o->h1.get? b=some o:=λb o e=>hsb.extBut b o (ne_of_lt (lt_size e)) (get?_push_of_some _ e);have J:=yO (qual:=qual) (q:=q) (c':=c') (tk:=s.toks+[(x,u)].length) I hcalm hN ok r hns hk;refine PySem.W.kla_codeExpr (wpAny_mono (hb s H s.heap.objs.size q c' [] _ _ H Q J h) (λz s' hz=>?_) λ_ _ z=>False.elim z);obtain⟨v',H',J',rv,hQ⟩:=hz;exact⟨v',H',J'.os,J'.bare,J'.base,J'.hok,rv,hQ⟩
 .cases r' with
  |error e=>exact hq'
  |ok fl=>
   cases fl with
   |ret u'=>exact hq'
   |next=>exact False.elim hq'
   |brk=>exact False.elim hq'
   |cont=>exact False.elim hq'
end
def kS (qual:Str)(c':Addr)(H:Hp):Prop:=∃(o:Obj) (vs:Array Value) (t:Tok),H c'=some (.frz o (.own 0))/\o.data = .fields vs/\vs[1]?=some (.str qual t)
def dY (qual:Str)(lp:Pos)(P:Addr)(H:Hp):Prop:=H P=some (.tbl #[])\/∃c',H P=some (.tbl #[rawInt lp.line,rawInt lp.col,.ref c'])/\kS qual c' H
def bW (P:Addr)(H H':Hp):Prop:=∀b u,H b=some u->b≠P->H' b=some u
theorem bW.trans {P:Addr}{H H1 H2:Hp}(a:bW P H H1)(b:bW P H1 H2):bW P H H2:=λc o h n=>b c o (a c o h n) n
theorem bW.of {P:Addr}{H H':Hp}(a:au H H'):bW P H H':=λc o h _=>a c o h
theorem kS.at_ {qual:Str}{c':Addr}{H:Hp}{Pg:Program}{w:World}{h:Heap}(x:kS qual c' H)(ok:ji Pg w H h):h.CodeRec (.ref c') qual:=by obtain⟨o,vs,t,e,d,q⟩:=x;obtain⟨e1,_⟩:=ok c' _ e;exact⟨c',o,vs,t,rfl,e1,d,q⟩
section
variable {X:Cx}{pins:List (Addr×Obj)}{σ:St}{H:Hp}{s:Shared}{scope:Scope}{x:Str}{j:Nat}
theorem AZ {c P:Addr}{lp:Pos}{params:Arguments}{body:Expr}{Q:Value->Shared->Prop}{E:Value->Shared->Prop}(I:aH X pins σ H s)(ok:pf X.N X.env.scope scope x j)(hcode:X.env.code = .ref c)(C:CodeHd X.base c P)(hb:X.base.BuiltinsAt X.mg P)
  (tab:dY (X.env.qual ++ "<lambda>") lp P H) (hdef:defaultsOf params X.env=([],[]))
  (h:∀(q:Addr) (H':Hp) (c':Addr) (ctv pm:Value) (s':Shared),aH X pins σ H' s'->bW P H H'->dY (X.env.qual ++ "<lambda>") lp P H'->gn X pins H' q->kS (X.env.qual ++ "<lambda>") c' H'-> s'.heap.get? q=some (kla_obj "<lambda>" (X.env.qual ++ "<lambda>") params body scope (be X.env.cells scope.names []) pm c' ctv)->Q (.ref q) s') :
  wpAny (model X.prog X.w) X.A (eval (.Lambda params body scope lp) X.env) Q E s:=by
 have hcl:closureFor scope X.env=pure (be X.env.cells scope.names []):=oR λy hy e=>by
  rcases ok.free y hy e with k|k
  .exact I.ok.has _ (.inl k)
  .exact I.ok.has _ (.inr k)
 have C':CodeHd s.heap c P:=C.keeps I.bk;have hg:s.heap.Ns mainGlobals X.mg:=I.mod.glob.keeps I.bk;have hb':s.heap.BuiltinsAt X.mg P:=let ⟨bm,o,h1,h2,h3,h4,h5,h6⟩:=hb;⟨bm,o,h1,h2,h3,h4,I.bk _ _ h5,h6⟩
 have nLP:∀{u:HO},H P=some u->X.env.locals≠P:=λ{u} e z=>by have:=I.free;rw[z,e]at this;cases this
 refine PySem.W.kla_eval hdef ?_;rcases tab with e|⟨c',e,cd⟩
 .have hP:s.heap.get? P=some (tabObj #[]):=I.hok P _ e;have hgP:mainGlobals≠P:=λz=>by obtain⟨o,es,ep,ho,hd,_⟩:=hg;rw[z,hP]at ho;cases ho;cases hd
  refine PySem.W.kla_makeFunction hcl I.ok.glob hg hcode C' hP trivial rfl hgP hb' λc' ctv h' tk hx hge hlt hrec hP'=>?_;obtain⟨c2,oc,vs,t,ec,hoc,hdc,hv⟩:=hrec;cases ec;have ncP:c'≠P:=λz=>absurd (lt_size hP) (by rw[<- z];exact Nat.not_lt.mpr hge);have Hc:H c'=none:=I.hok.fresh hge;have kp:∀b o,b≠P->s.heap.get? b=some o->(h'.push (kla_obj "<lambda>" (X.env.qual ++ "<lambda>") params body scope (be X.env.cells scope.names []) ((X.mg "__name__").getD .none) c' ctv)).get? b=some o:=λb o nb q=>get?_push_of_some _ (hx b o nb q);have old:∀b u,H b=some u->b≠P->upd (upd H P (.tbl #[rawInt lp.line,rawInt lp.col,.ref c'])) c' (.frz oc (.own 0)) b=some u:=λb u q nb=>by rw[ah (aj q Hc),ah nb];exact q
  have nP:∀{b:Addr} {u:HO},H b=some u->(∀ps,u≠.tbl ps)->b≠P:=λ{b u} q nt z=>by rw[z,e]at q;exact nt _ (Option.some.inj q).symm
  have nPn:∀{b:Addr},H b=none->b≠P:=λ{b} q z=>by rw[z,e]at q;cases q
  have I1:aH X pins σ (upd (upd H P (.tbl #[rawInt lp.line,rawInt lp.col,.ref c'])) c' (.frz oc (.own 0))) { s with heap:=h'.push (kla_obj "<lambda>" (X.env.qual ++ "<lambda>") params body scope (be X.env.cells scope.names []) ((X.mg "__name__").getD .none) c' ctv),toks:=tk }:=by
   refine I.step (g':=s.gens) (d':=s.drawn) (ch:=[]) (λ_ z=>nomatch z) (λb o _ _ _ q n=>kp b o (nPn n) q) (λb o _ _ _ q n=>⟨o.slots,kp b o (nPn n) q⟩) (λb o _ q n=>?_) (λb o _ q=>?_) (λb xs q=>old b _ q (nP q λ_ z=>by cases z)) (λb o u q=>old b _ q (nP q λ_ z=>by cases z)) (λb ps q=>?_)
    (λm ⟨o,es,ep,ho,r⟩=>⟨o,es,ep,kp _ o (nLP e) ho,r⟩) (λb u q=>?_) I.bare
   .rw[ah (ne_of_lt (lt_of_lt_of_le (lt_size q) hge)),ah (nPn n)];exact n
   .by_cases z:b=P
    .exact⟨_,by rw[z];exact get?_push_of_some _ hP'⟩
    .exact⟨o,kp b o z q⟩
   .by_cases z:b=P
    .subst z;rw[e]at q;cases q;exact⟨#[rawInt lp.line,rawInt lp.col,.ref c'],by rw[ah (Ne.symm ncP),ac];rfl⟩
    .exact⟨#[],by rw[old b _ q z];simp⟩
   .by_cases z:b=c'
    .subst z;rw[ac]at q;cases q;have g:=get?_push_of_some (kla_obj "<lambda>" (X.env.qual ++ "<lambda>") params body scope (be X.env.cells scope.names []) ((X.mg "__name__").getD .none) b ctv) hoc;exact⟨g,oc,g⟩
    .rw[ah z]at q;by_cases z2:b=P
     .subst z2;rw[ac]at q;cases q;exact get?_push_of_some _ hP'
     .rw[ah z2]at q;refine(I.hok b u q).stay (λd v hd r=>kp d v ?_ r) (λd r=>old d _ r (nP r λ_ z=>by cases z)) λd xs r=>old d _ r (nP r λ_ z=>by cases z);rcases hd with rfl|hd
      .exact z2
      .exact nP hd λ_ z=>by cases z
  refine h _ _ c' ctv _ _ I1 (λb u q nb=>old b u q nb) (.inr ⟨c',by rw[ah (Ne.symm ncP),ac],oc,vs,t,ac,hdc,hv⟩) ?_ ⟨oc,vs,t,ac,hdc,hv⟩ (get?_push_size _ rfl);have hq:s.heap.objs.size<=h'.objs.size:=le_of_lt (Nat.lt_of_le_of_lt hge hlt);refine I.fpOk hq ?_;rw[ah (ne_of_gt hlt),ah (λz=>absurd (lt_size hP) (by rw[<- z];exact Nat.not_lt.mpr hq))];exact I.hok.fresh hq
 .have hP:s.heap.get? P=some (tabObj #[rawInt lp.line,rawInt lp.col,.ref c']):=I.hok P _ e;refine PySem.W.kla_makeFunctionHit (cv:=.ref c') hcl I.ok.glob hg hcode C' hP trivial (by simp[codeAmong,rawInt]) hb' λctv h' tk kp hz=>?_;have I1:aH X pins σ H { s with heap:=h'.push (kla_obj "<lambda>" (X.env.qual ++ "<lambda>") params body scope (be X.env.cells scope.names []) ((X.mg "__name__").getD .none) c' ctv),toks:=tk }:=I.kept (t':=tk) λb u q=>get?_push_of_some _ (kp b u q);exact h _ H c' ctv _ _ I1 (λb u q _=>q) (.inr ⟨c',e,cd⟩) (I.fpOk hz (I.hok.fresh hz)) cd (get?_push_size _ rfl)
end
end L2
namespace HT
theorem lexLt_trans:∀{a b c:List Int},lexLt a b=true->lexLt b c=true->lexLt a c=true
 |[],[],_,h,_=>by cases h
 |[],_::_,[],_,h=>by cases h
 |[],_::_,_::_,_,_=>rfl
 |_::_,[],_,h,_=>by cases h
 |_::_,_::_,[],_,h=>by cases h
 |x::xs,y::ys,z::zs,h1,h2=>by
  rw[lexLt_cons]at h1 h2 ⊢;by_cases e1:x=y
  .rw[if_pos e1]at h1;by_cases e2:y=z
   .rw[if_pos e2]at h2;rw[if_pos (e1.trans e2)];exact lexLt_trans h1 h2
   .rw[if_neg e2]at h2;rw[if_neg (λq=>e2 (e1.symm.trans q)),e1];exact h2
  .rw[if_neg e1,decide_eq_true_eq]at h1;by_cases e2:y=z
   .rw[if_neg (λq=>e1 (q.trans e2.symm)),<- e2];exact decide_eq_true h1
   .rw[if_neg e2,decide_eq_true_eq]at h2;rw[if_neg (by omega)];exact decide_eq_true (by omega)
end HT
namespace L2
open PyProof.Rows
def kC (H:Hp)(kb:Addr)(ks:List Int):Prop:=∃n g r,ks=n::r/\H kb=some (.tup [.int n,.ref g])/\H g=some (.lst (r.map V.int))
theorem kC.mono {P kb:Addr}{H H':Hp}{ks:List Int}(h:kC H kb ks)(e:au H H'):kC H' kb ks:=by obtain⟨n,g,r,h1,h2,h3⟩:=h;exact⟨n,g,r,h1,e _ _ h2,e _ _ h3⟩
theorem mF:∀{ns:List Int} {us:List Value},bn (ns.map V.int) us->IntsAre us ns
 |[],_,h=>by cases h;exact .nil
 |n::r,_,h=>by
  cases h with
  |cons h1 h2=>
   obtain⟨t,rfl⟩:=h1;exact .cons n t (mF h2)
section
variable {X:Cx}{pins:List (Addr×Obj)}{σ:St}{H:Hp}{s:Shared}
theorem EA {ka kb:Addr}{k1 k2:List Int}{Q:Value->Shared->Prop}{E:Value->Shared->Prop}(I:aH X pins σ H s)(hu:X.A.units+200<cLine)(h1:kC H ka k1)(h2:kC H kb k2)(h:Q (.bool (HT.lexLt k1 k2)) s) :
  wpAny (model X.prog X.w) X.A.in1 (richCompare .Lt (.ref ka) (.ref kb)) Q E s:=by
 obtain⟨a,g,r,rfl,t1,l1⟩:=h1;obtain⟨c,g',r',rfl,t2,l2⟩:=h2;obtain⟨_,its,rv,it⟩:=I.hok ka _ t1;obtain⟨_,its',rv',it'⟩:=I.hok kb _ t2;obtain⟨_,v1,n1,w1,e1⟩:=I.hok g _ l1;obtain⟨_,v2,n2,w2,e2⟩:=I.hok g' _ l2;obtain⟨as,r1⟩:=Dp.reads I (.list (r.map PyData.int)) (.ref g) (.ref g) (Dp.lst (aR.of l1) (lm r)) rfl;obtain⟨bs,r2⟩:=Dp.reads I (.list (r'.map PyData.int)) (.ref g') (.ref g') (Dp.lst (aR.of l2) (lm r')) rfl;cases rv with
 |cons ra rr=>
  cases rr with
  |cons rb rr=>
   cases rr;obtain⟨t,rfl⟩:=ra;cases rb;cases rv' with
   |cons ra' rr'=>
    cases rr' with
    |cons rb' rr'=>
     cases rr';obtain⟨t',rfl⟩:=ra';cases rb';exact HT.lt_keys it it' e1 e2 (by simpa using mF w1) (by simpa using mF w2) r1 r2 (by show X.A.units+1+100<cLine;omega) h
end
theorem gn.to {X:Cx}{pins:List (Addr×Obj)}{H H':Hp}{b:Addr}(f:gn X pins H b)(n:H' b=none):gn X pins H' b:=⟨n,f.2⟩
section
variable {X:Cx}{pins:List (Addr×Obj)}{σ:St}
def xF (X:Cx)(pins:List (Addr×Obj))(σ:St)(H1:Hp)(q:Addr)(key:Int->List Int)(v:Int):Prop:=∀(u:Value),bI (.int v) u->∀(pl:List (Addr×Obj)) (H:Hp) (s:Shared),aH X (pins++pl) σ H s->au H1 H->
 wpAny (model X.prog X.w) X.A.in1 (call (.ref q) [u]) (EP X (pins++pl) σ λy H2=>au H H2/\∃kb,y = .ref kb/\kC H2 kb (key v)) (λ_ _=>False) s
theorem ph {l It S:Addr}{ns:List Int}{H1 H:Hp}{s:Shared}{j:Nat}{so:Obj}{Q:Option Value->Shared->Prop}{E:Value->Shared->Prop}(hcalm:X.calm=true)(hq:aR X.K H1 l (ns.map V.int))(hlI:l≠It)(I:aH X pins σ H s)(sm:au H1 H)(fI:gn X pins H It)
  (hjn:j<=ns.length) (hit:s.heap.IsListIter It l j) (hS:s.heap.get? S=some so) (hSI:S≠It)
  (hgo:∀(v:Int) (u:Value) (s':Shared),ns[j]?=some v->bI (.int v) u->aH X pins σ H s'->s'.heap.IsListIter It l (j+1)->s'.heap.get? S=some so->Q (some u) s')
  (hend:j=ns.length->∀s',aH X pins σ H s'->s'.heap.get? S=some so->Q none s'):wpAny (model X.prog X.w) X.A.in1 (pyNext (.ref It)) Q E s:=by
 obtain⟨its,rv,p,hz⟩:=I.list (sm.seq hq);have W:=Walks.list (prog:=X.prog) (w:=X.w) (A:=X.A.in1) (I.ok.hd hcalm) It l hlI its.toArray;have hl:=rv.length;rw[length_map]at hl;obtain⟨f0,f1,f2,f3,f4,f5⟩:=id fI;by_cases hj:j<ns.length
 .refine W.item j _ _ _ (by rw[size_toArray];omega) ⟨hit,p.isList⟩ λu h' tk hP hst' hk'=>?_;have hv:its[j]?=some u:=by simpa using hP
  obtain⟨u',hu',ru⟩:=rv.get (i:=j) (x:=V.int ns[j]) (by rw[getElem?_map,List.getElem?_eq_getElem hj];rfl);rw[hv]at hu';cases hu';exact hgo ns[j] u _ (List.getElem?_eq_getElem hj) ru (I.turned (t':=tk) (λb o nb e=>hk' b o (by simpa using nb) e) f0 f1 f3 f4 f5) hst'.1 (hk' S _ (by simpa using hSI) hS)
 .refine W.done _ _ _ ⟨?_,p.isList⟩ λh' tk hk'=>?_
  .rw[size_toArray];have e:its.length=j:=by omega
   rw[e];exact hit
  .exact hend (by omega) _ (I.turned (t':=tk) (λb o nb e=>hk' b o (by simpa using nb) e) f0 f1 f3 f4 f5) (hk' S _ (by simpa using hSI) hS)
theorem A0 {R:Result->Shared->Prop}{l It S q:Addr}{ns:List Int}{H1:Hp}(key:Int->List Int)(hcalm:X.calm=true)(hu:X.A.units+200<cLine)(hq:aR X.K H1 l (ns.map V.int))(hlI:l≠It)(hSI:S≠It)(turn:∀v∈ns,xF X pins σ H1 q key v)
  (hR:∀(v:Int) (u:Value) (H:Hp) (s:Shared),v∈ns->bI (.int v) u->(∀y∈ns,HT.lexLt (key y) (key v)=false)->aH X pins σ H s->au H1 H->R (.ok (.ret u)) s) :
  ∀(r j:Nat) (b:Int) (H:Hp) (s:Shared) (vb:Value) (kb:Addr) (c:Nat),ns.length-j=r->j<=ns.length->b∈ns->bI (.int b) vb->(∀i y,i<j->ns[i]?=some y->HT.lexLt (key y) (key b)=false)->kC H kb (key b)->aH X pins σ H s->au H1 H->gn X pins H It->gn X pins H S->
   s.heap.IsListIter It l j->s.heap.get? S=some (seqObj "list" #[vb,.ref kb] c)->codeAny (model X.prog X.w) X.A (.builtin "min.loop" ⟨[.ref It,.ref q,.ref S],[]⟩) R s:=by
 have hname:(toString "min"++toString ".loop":String) = "min.loop":=by decide
 intro r
 induction r with
 |zero=>
  intro j b H s vb kb c hr hj hb rb best hk I sm fI fS hit hS;refine codeAny_builtin PySem.F.entry_min_loop ?_;rw[Around.under_plainId PySem.F.plain_min_loop _];show wpAny _ X.A.in1 (seqItems? (.ref S) >>= _) _ _ _;refine wpAny_bind (wpAny_seqItems hS rfl ?_);show wpAny _ X.A.in1 (tryCatch (pyNext (.ref It)) _ >>= _) _ _ _;refine wpAny_bind (wpAny_tryCatch (ph hcalm hq hlI I sm fI hj hit hS hSI (λv u s' hv _ _ _ _=>?_) λ_ s' I1 hS1=>?_))
  .obtain⟨q1,_⟩:=List.getElem?_eq_some_iff.mp hv;omega
  .show wpAny _ X.A.in1 (updateSeq S (λ_=>#[]) >>= _) _ _ _;refine wpAny_bind ?_;refine wpAny_updateSeq hS1 rfl (wpAny_bind (wpAny_letGo (wpAny_pure ?_)));have s1:=SameBut.update s'.heap S (Obj.mapSeq λ_=>(#[]:Array Value));obtain⟨f0,f1,f2,f3,f4,f5⟩:=fS;refine hR b vb H _ hb rb (λy hy=>?_) (I1.turned (t':=s'.toks) (λa o na e=>(s1.2 a na).trans e) f0 f1 f3 f4 f5) sm;obtain⟨i,hi⟩:=List.mem_iff_getElem?.mp hy;obtain⟨q1,_⟩:=List.getElem?_eq_some_iff.mp hi;exact best i y (by omega) hi
 |succ r ih=>
  intro j b H s vb kb c hr hj hb rb best hk I sm fI fS hit hS;refine codeAny_builtin PySem.F.entry_min_loop ?_;rw[Around.under_plainId PySem.F.plain_min_loop _];show wpAny _ X.A.in1 (seqItems? (.ref S) >>= _) _ _ _;refine wpAny_bind (wpAny_seqItems hS rfl ?_);show wpAny _ X.A.in1 (tryCatch (pyNext (.ref It)) _ >>= _) _ _ _;refine wpAny_bind (wpAny_tryCatch (ph hcalm hq hlI I sm fI hj hit hS hSI (λv u s' hv rv I1 hit1 hS1=>?_) λe s' _ _=>by omega));have hm:v∈ns:=mem_of_getElem? hv;obtain⟨oI,hoI,hoc,hod⟩:=id hit1;have I1p:=I1.pinned (fp:=[It,S]) (λa ha=>by
   rcases mem_cons.mp ha with z|z
   .rw[z];exact fI
   .rw[mem_singleton.mp z];exact fS) (λa ha=>by
   rcases mem_cons.mp ha with z|z
   .rw[z];exact⟨oI,hoI,λv z=>by rw[hod]at z;cases z⟩
   .rw[mem_singleton.mp z];exact⟨_,hS1,λv z=>by cases z⟩)
  show wpAny _ X.A.in1 (tryCatch (holding [u] (call (.ref q) [u])) _ >>= _) _ _ _;refine wpAny_bind (wpAny_tryCatch (wpAny_holding (wpAny_mono (turn v hm u rv _ H s' I1p sm) (λx s2 he=>?_) λ_ _ hF=>hF.elim)));obtain⟨y,H2,I2,ry,sm2,kn,rfl,hkn⟩:=he;cases ry;have pI:=I2.pin (It,oI) (mem_append_right _ (mem_append_right _ (dG (by simp) hoI)));have pS:=I2.pin (S,_) (mem_append_right _ (mem_append_right _ (dG (by simp) hS1)));have I3:aH X pins σ H2 s2:=I2.unpinned;have sm3:=sm.trans sm2;show wpAny _ X.A.in1 (tryCatch (holding [u,.ref kn] (richCompare .Lt (.ref kn) (.ref kb) >>= _)) _ >>= _) _ _ _;refine wpAny_bind (wpAny_tryCatch (wpAny_holding (wpAny_bind (EA I3 hu hkn (hk.mono (P:=0) sm2) ?_))));refine wpAny_bind (wpAny_holding (wpAny_truthy_bool ?_));refine wpAny_bind (wpAny_letGo (wpAny_pure ?_));cases hlt:HT.lexLt (key v) (key b)with
  |true=>
   have s1:=SameBut.update s2.heap S (Obj.mapSeq λ_=>#[u,.ref kn]);obtain⟨c2,hc2⟩:∃c2,(s2.heap.update S (Obj.mapSeq λ_=>#[u,.ref kn])).get? S=some (seqObj "list" #[u,.ref kn] c2):=⟨_,get?_update_seq pS.1 λ_=>#[u,.ref kn]⟩
   simp only[if_true];refine wpAny_bind ?_;refine wpAny_updateSeq pS.1 rfl (wpAny_bind (wpAny_letGo ?_));rw[hname];have fS2:gn X pins H2 S:=fS.to pS.2.1;obtain⟨f0,f1,f2,f3,f4,f5⟩:=id fS2;refine wpAny_pure ⟨plainId_quiet PySem.F.plain_min_loop _,ih (j+1) v H2 _ u kn c2 (by omega) (by omega) hm rv (λi y hi hy=>?_) hkn (I3.turned (t':=s2.toks) (λa o na e=>(s1.2 a na).trans e) f0 f1 f3 f4 f5) sm3 (fI.to pI.2.1) fS2 ⟨oI,(s1.2 It hSI.symm).trans pI.1,hoc,hod⟩ hc2⟩;by_cases e:i=j
   .rw[e,hv]at hy;cases hy;exact HT.lexLt_irr _
   .have b1:=best i y (by omega) hy;cases q1:HT.lexLt (key y) (key v)with
    |false=>rfl
    |true=>rw[HT.lexLt_trans q1 hlt]at b1;cases b1
  |false=>
   simp only[Bool.false_eq_true,if_false];refine wpAny_bind (wpAny_letGo ?_);rw[hname];refine wpAny_pure ⟨plainId_quiet PySem.F.plain_min_loop _,ih (j+1) b H2 _ vb kb c (by omega) (by omega) hb rb (λi y hi hy=>?_) (hk.mono (P:=0) sm2) I3 sm3 (fI.to pI.2.1) (fS.to pS.2.1) ⟨oI,pI.1,hoc,hod⟩ pS.1⟩;by_cases e:i=j
   .rw[e,hv]at hy;cases hy;exact hlt
   .exact best i y (by omega) hy
theorem A1 {l q:Addr}{ns:List Int}{H1:Hp}{s:Shared}{Q:Value->Shared->Prop}{E:Value->Shared->Prop}(key:Int->List Int)(hcalm:X.calm=true)(hu:X.A.units+200<cLine)(hq:aR X.K H1 l (ns.map V.int))(hne:0<ns.length)(I:aH X pins σ H1 s)(turn:∀v∈ns,xF X pins σ H1 q key v)
  (hQ:∀(v:Int) (u:Value) (H:Hp) (s:Shared),v∈ns->bI (.int v) u->(∀y∈ns,HT.lexLt (key y) (key v)=false)->aH X pins σ H s->au H1 H->Q u s) :
  wpAny (model X.prog X.w) X.A (call (.builtin "min") [.ref l] [(Str.ofString "key",.ref q)]) Q E s:=by
 have hname:(toString "min"++toString ".loop":String) = "min.loop":=by decide
 obtain⟨its,rv,p,hz⟩:=I.list hq;have hls:=p.isList;obtain⟨ol,hol,_⟩:=id hls;have hll:l<s.heap.objs.size:=lt_size hol;refine kmk_tree PySem.F.kind_min PySem.F.plain_min PySem.F.entry_min (kmk_min_key _ _) ?_;show wpAny _ X.A.in1 (Builtin.Builtins.bindParams "min" ["key","default"] 0 ⟨[],[(Str.ofString "key",.ref q)]⟩ >>= _) _ _ s;refine wpAny_bind (wpAny_of_eq (show Builtin.Builtins.bindParams "min" ["key","default"] 0 ⟨[],[(Str.ofString "key",.ref q)]⟩=pure [some (.ref q),none]from rfl) ?_);refine wpAny_bind (wpAny_pure ?_);refine wpAny_bind (wpAny_pyIter_list hls ?_);refine wpAny_bind (wpAny_newList ?_ (zero_le _));rw[hname];refine wpAny_pure ⟨plainId_quiet PySem.F.plain_min_loop _,?_⟩;generalize hIo:({ cls:=.type "list_iterator",data:=.fields #[.ref l,.int 0 0] }:Obj)=oI0;have hsz:(s.heap.push oI0).objs.size=s.heap.objs.size+1:=size_push ..;generalize hSd:(s.heap.push oI0).objs.size=S;have hlI:l≠s.heap.objs.size:=ne_of_lt hll;have hSI:S≠s.heap.objs.size:=by rw[<- hSd,hsz];exact Nat.succ_ne_self _
 have kp:∀b o,s.heap.get? b=some o->((s.heap.push oI0).push (seqObj "list" #[] 0)).get? b=some o:=λb o e=>get?_push_of_some _ (get?_push_of_some _ e);have gI:((s.heap.push oI0).push (seqObj "list" #[] 0)).get? s.heap.objs.size=some oI0:=get?_push_of_some _ (get?_push_size _ (by rw[<- hIo];rfl));have gS:((s.heap.push oI0).push (seqObj "list" #[] 0)).get? S=some (seqObj "list" #[] 0):=by rw[<- hSd];exact get?_push_size _ rfl
 have I0:aH X pins σ H1 { s with heap:=(s.heap.push oI0).push (seqObj "list" #[] 0) }:=I.kept (t':=s.toks) kp;have fI:gn X pins H1 s.heap.objs.size:=I.fpOk (Nat.le_refl _) (I.hok.fresh (Nat.le_refl _));have hSle:s.heap.objs.size<=S:=by rw[<- hSd,hsz];exact le_succ _
 have fS:gn X pins H1 S:=I.fpOk hSle (I.hok.fresh hSle);have hit0:Heap.IsListIter ((s.heap.push oI0).push (seqObj "list" #[] 0)) s.heap.objs.size l 0:=⟨oI0,gI,by subst hIo;rfl,by subst hIo;rfl⟩
 refine codeAny_builtin PySem.F.entry_min_loop ?_;rw[Around.under_plainId PySem.F.plain_min_loop _];show wpAny _ X.A.in1 (seqItems? (.ref S) >>= _) _ _ _;refine wpAny_bind (wpAny_seqItems gS rfl ?_);show wpAny _ X.A.in1 (tryCatch (pyNext (.ref s.heap.objs.size)) _ >>= _) _ _ _;refine wpAny_bind (wpAny_tryCatch (ph hcalm hq hlI I0 (λ_ _ z=>z) fI (zero_le _) hit0 gS hSI (λv u s' hv rv I1 hit1 hS1=>?_) λe s' _ _=>by omega));have hm:v∈ns:=mem_of_getElem? hv;obtain⟨oI,hoI,hoc,hod⟩:=id hit1;have I1p:=I1.pinned (fp:=[s.heap.objs.size,S]) (λa ha=>by
  rcases mem_cons.mp ha with z|z
  .rw[z];exact fI
  .rw[mem_singleton.mp z];exact fS) (λa ha=>by
  rcases mem_cons.mp ha with z|z
  .rw[z];exact⟨oI,hoI,λv z=>by rw[hod]at z;cases z⟩
  .rw[mem_singleton.mp z];exact⟨_,hS1,λv z=>by cases z⟩)
 show wpAny _ X.A.in1 (tryCatch (holding [u] (call (.ref q) [u])) _ >>= _) _ _ _;refine wpAny_bind (wpAny_tryCatch (wpAny_holding (wpAny_mono (turn v hm u rv _ H1 s' I1p (λ_ _ z=>z)) (λx s2 he=>?_) λ_ _ hF=>hF.elim)));obtain⟨y,H2,I2,ry,sm2,kn,rfl,hkn⟩:=he;cases ry;have pI:=I2.pin (s.heap.objs.size,oI) (mem_append_right _ (mem_append_right _ (dG (by simp) hoI)));have pS:=I2.pin (S,_) (mem_append_right _ (mem_append_right _ (dG (by simp) hS1)));have I3:aH X pins σ H2 s2:=I2.unpinned;have s1:=SameBut.update s2.heap S (Obj.mapSeq λ_=>#[u,.ref kn]);obtain⟨c2,hc2⟩:∃c2,(s2.heap.update S (Obj.mapSeq λ_=>#[u,.ref kn])).get? S=some (seqObj "list" #[u,.ref kn] c2):=⟨_,get?_update_seq pS.1 λ_=>#[u,.ref kn]⟩
 show wpAny _ X.A.in1 (updateSeq S (λ_=>#[u,.ref kn]) >>= _) _ _ _;refine wpAny_bind ?_;refine wpAny_updateSeq pS.1 rfl ?_;rw[hname];have fS2:gn X pins H2 S:=fS.to pS.2.1;obtain⟨f0,f1,f2,f3,f4,f5⟩:=id fS2;refine wpAny_pure ⟨plainId_quiet PySem.F.plain_min_loop _,A0 key hcalm hu hq hlI hSI turn (λv u H s a b c d e=>?_) _ 1 v H2 _ u kn c2 rfl (by omega) hm rv (λi y hi hy=>?_) hkn (I3.turned (t':=s2.toks) (λa o na e=>(s1.2 a na).trans e) f0 f1 f3 f4 f5) sm2 (fI.to pI.2.1) fS2 ⟨oI,(s1.2 _ hSI.symm).trans pI.1,hoc,hod⟩ hc2⟩
 .exact hQ v u H s a b c d e
 .have e:i=0:=by omega
  rw[e,hv]at hy;cases hy;exact HT.lexLt_irr _
end
theorem lK {M:Model}{A:Around}{E:Value->Shared->Prop}{s:Shared}{pos:Pos}{T:String}{args:List (Bool×Sem Value)}{kws:List (Option Str×Sem Value)}{Q:Value->Shared->Prop}(hp:(args.any (·.1)||kws.any (·.1.isNone))=false)
  (h:wpAny M A (evalArgs (.builtin T) true args kws) (λa s₁=>wpAny M A (call (.builtin T) a.pos a.kw) Q E s₁) E s):wpAny M A (callWith pos (.builtin T) [] args kws) Q E s:=by
 unfold callWith;refine wpAny_bind (wpAny_holding (wpAny_mono h (λa s1 h1=>wpAny_bind (wpAny_standAt ?_)) λ_ _ x=>x));simp only[hp];refine wpAny_bind (wpAny_pure ?_);exact wpAny_bind (wpAny_mono h1 (λr s2 hr=>wpAny_bind (wpAny_holding (wpAny_point (wpAny_pure hr)))) λ_ _ x=>x)
theorem dY.there {qual:Str}{lp:Pos}{P:Addr}{H:Hp}(h:dY qual lp P H):∃ps,H P=some (.tbl ps):=by
 rcases h with h|⟨c',h,_⟩
 .exact⟨_,h⟩
 .exact⟨_,h⟩
theorem kS.mono {qual:Str}{c':Addr}{H H':Hp}(h:kS qual c' H)(e:au H H'):kS qual c' H':=let ⟨o,vs,t,a,b⟩:=h;⟨o,vs,t,e _ _ a,b⟩
theorem dY.mono {qual:Str}{lp:Pos}{P:Addr}{H H':Hp}(h:dY qual lp P H)(e:au H H'):dY qual lp P H':=by
 rcases h with h|⟨c',h,k⟩
 .exact .inl (e _ _ h)
 .exact .inr ⟨c',e _ _ h,k.mono e⟩
theorem aR.b {K:PySem.W.Frag}{P a:Addr}{H H':Hp}{ps:Array Value}{xs:List V}(e:bW P H H')(t:H P=some (.tbl ps))(h:aR K H a xs):aR K H' a xs:=by
 rcases h with(h|⟨o,h⟩)|h
 .exact .inl (.inl (e _ _ h (aP h t (by intro z;cases z))))
 .exact .inl (.inr ⟨o,e _ _ h (aP h t (by intro z;cases z))⟩)
 .exact .inr h
def A2 (K:PySem.W.Frag)(qual:Str)(lp:Pos)(P:Addr)(j:Nat)(ta:TA)(tb:TE):TE:=λσ H Q=>ta σ H λvs H1=>∃(a:Addr) (ns:List Int) (key:Int->List Int),vs=[.ref a]/\aR K H1 a (ns.map V.int)/\0<ns.length/\dY qual lp P H1/\
 (∀v∈ns,∀H2,bW P H1 H2->tb (σ.set j (some (.int v))) H2 λy H3=>au H2 H3/\∃kb,y = .ref kb/\kC H3 kb (key v))/\
 ∀m∈ns,(∀y∈ns,HT.lexLt (key y) (key m)=false)->∀H',bW P H1 H'->dY qual lp P H'->Q (.int m) H'
theorem CM {X:Cx}{k:Nat}{e body:Expr}{ta:TA}{tb:TE}{c P:Addr}{p pos kp lp:Pos}{params:Arguments}{scope:Scope}{x:Str}{j:Nat}(hcalm:X.calm=true)(hN:X.N.Nodup)(hr:dk (k+1) X.A)(hg:Gl X "min")(hm:X.mg "min"=none)(ha:PA X [e] ta)(ok:pf X.N X.env.scope scope x j)
  (hcode:X.env.code = .ref c) (C:CodeHd X.base c P) (hb:X.base.BuiltinsAt X.mg P)
  (hbind:∀(pm ctv:Value) (c':Addr) (u:Value),bindArgs (kla_fn "<lambda>" (X.env.qual ++ "<lambda>") params body scope (be X.env.cells scope.names []) pm (.ref c') ctv) ⟨[u],[]⟩=pure [(x,u)])
  (hbody:∀(s:Shared) (H:Hp) (L q c':Addr),PE (X.lam s H (mE X (X.env.qual ++ "<lambda>") scope L q c')) body tb) (hdef:defaultsOf params X.env=([],[])) (hs:starEach [e] X.env=[(false,eval e X.env)]:=by rfl) :
  PE X (.Call (.Name "min" p) [e] [⟨some "key",.Lambda params body scope lp,kp⟩] pos) (A2 X.K (X.env.qual ++ "<lambda>") lp P j ta tb):=by
 intro pins s σ H Q I h;refine wpAny_Call_Name_kw (iK I hg hm boot_min (lK (by rw[hs];rfl) ?_));rw[hs];have hA:=ha pos pins s σ H _ I h;rw[hs]at hA;refine evalArgs_kw rfl (cx hA λus s1 ⟨vs,H1,I1,r1,q1⟩=>?_);obtain⟨a,ns,key,ex,hq,hne,tab,each,fin⟩:=q1;subst ex;cases r1 with
 |cons r rr=>
  cases rr;cases r;refine kws_cons (AZ I1 ok hcode C hb tab hdef λq H2 c' ctv pm s2 I2 sm tab2 fq cd hq2=>kws_nil ?_);show wpAny _ _ (call (.builtin "min") [.ref a] [(Str.ofString "key",.ref q)]) _ _ _;obtain⟨ps,ht⟩:=tab.there;have I2p:=I2.pinned (fp:=[q]) (λb hb'=>by rw[mem_singleton.mp hb'];exact fq) (λb hb'=>by rw[mem_singleton.mp hb'];exact⟨_,hq2,λv z=>by cases z⟩);refine A1 key hcalm (by have:=hr.un;omega) (aR.b sm ht hq) hne I2p (λv hv u ru pl H4 s4 I4 sm4=>?_) λv u H4 s4 hv ru hmin I4 sm4=>⟨.int v,H4,I4.unpinned,ru,fin v hv hmin H4 (sm.trans (bW.of sm4)) (tab2.mono sm4)⟩
  have hq4:=(I4.pin (q,_) (mem_append_right _ (mem_append_left _ (mem_append_right _ (dG (by simp) hq2))))).1;refine wpAny_mono (AY I4 hcalm hN hr ok hq4 ((cd.mono sm4).at_ I4.hok) hbind hbody ru (each v hv H4 (sm.trans (bW.of sm4)))) (λz s5 hz=>I4.after hz) λ_ _ z=>z
theorem v8 {X:Cx}:ij X (.type "dict") (λxs H Q=>∃a kvs,xs=[.ref a]/\H a=some (.dK kvs)/\∀p,H p=none->Q (.ref p) (upd H p (.dK kvs))):=by intro pins s σ H xs us Q I r h;obtain⟨a,kvs,rfl,ha,q⟩:=h;obtain⟨u,rfl,rx⟩:=tT r;cases rx;obtain⟨z,hd,vs,rel,dd⟩:=zW I.hok ha;refine kt_call_dict hd dd (by rw[<- rel.length];exact z) λh' hm hs=>?_;have hb:(s.heap.objs.size==sysModules)=false:=beq_eq_false_iff_ne.mpr (ne_of_gt I.big);exact⟨.ref s.heap.objs.size,upd H s.heap.objs.size (.dK kvs),I.laid (t':=s.toks) (λb o e=>(hs.2 b (ne_of_lt (lt_size e))).trans (get?_push_of_some _ e)) (Nat.le_refl _) ⟨z,hb,vs,rel,hm⟩,rfl,q _ (I.hok.fresh (Nat.le_refl _))⟩
def v9 (td:TE):TE:=λσ H Q=>td σ H λx H1=>∃a kvs,x = .ref a/\H1 a=some (.dK kvs)/\∀p,H1 p=none->Q (.ref p) (upd H1 p (.lst (kvs.map (·.2))))
theorem CN {σ:St}{H:Hp}{Q:VK}{td:TE}(h:td σ H λx H1=>∃a kvs,x = .ref a/\H1 a=some (.dK kvs)/\∀p,H1 p=none->Q (.ref p) (upd H1 p (.lst (kvs.map (·.2))))):v9 td σ H Q:=h
theorem A3 {κ:Type}:∀{kvs:List (κ×V)} {vs:List (κ×Value)},KV kvs vs->bn (kvs.map (·.2)) (vs.map (·.2))
 |_,_,.nil=>.nil
 |_,_,.cons r t=>.cons r.2 (A3 t)
theorem A4 {X:Cx}{e:Expr}{td:TE}{p pos apos cpos:Pos}(hcalm:X.calm=true)(hg:Gl X "list")(hm:X.mg "list"=none)(he:PE X e td)(hbase:attributeBase e "values" X.env (eval e X.env)=eval e X.env:=by rfl)(hline:(apos.endLine==cpos.line)=true:=by rfl)
  (hs:starEach [.Call (.Attribute e "values" apos) [] [] cpos] X.env=[(false,eval (.Call (.Attribute e "values" apos) [] [] cpos) X.env)]:=by rfl) :
  PE X (.Call (.Name "list" p) [.Call (.Attribute e "values" apos) [] [] cpos] [] pos) (v9 td):=by
 intro pins s σ H Q I h;refine wpAny_Call_Name_kw (iK I hg hm boot_list ?_);refine PyProof.Rows.callWith_type1 (env:=X.env) ?_ (by rw[hs];rfl) rfl;rw[hs];refine Calls.spliced_cons ?_;refine wpAny_Call_method (T := "dict") (id := "dict.values") hbase rfl hline F.plainAttrs_dict F.slot_dict_values F.type_dict_values (cx (he pins s σ H _ I h) λu s1 ⟨x,H1,I1,rx,d,kvs,ex,hd,q⟩=>?_);subst ex;obtain rfl:u=Value.ref d:=rx;obtain⟨z,hsm,vs,rel,dd⟩:=zW I1.hok hd;refine⟨dd.typeIs,dd.mapOf.noDict,?_⟩;have I2:aH X pins σ H1 { s1 with heap:=s1.heap.push { cls:=.type "dict_values",data:=.fields #[.ref d] } }:=I1.kept (t':=s1.toks) λb ob q=>get?_push_of_some _ q;obtain⟨ep,hat⟩:=dd.dictAt;have fin:wpAny (model X.prog X.w) X.A (call (.type "list") [.ref s1.heap.objs.size]) (EP X pins σ Q) X.xe { s1 with heap:=s1.heap.push { cls:=.type "dict_values",data:=.fields #[.ref d] } }:=by
  refine PySem.W.kdl_call (PySem.W.kdl_values (knd:=bM X.prog X.w) (kvs:=vs) (ep:=ep)) (I.ok.hd hcalm) ⟨⟨_,get?_push_size _ rfl,rfl,rfl⟩,hat.push _⟩ (by rw[<- rel.length];exact z) λh' tk acc' c' hk hD hacc=>?_;have ea:acc'.toList=vs.map (·.2):=by
   refine List.ext_getElem? λi=>?_;rw[Array.getElem?_toList,getElem?_map];cases e1:acc'[i]? with
   |some v=>
    obtain⟨k,hk⟩:=hacc.2 i v e1;rw[hk];rfl
   |none=>
    have h1:acc'.size<=i:=Array.getElem?_eq_none_iff.mp e1;rw[List.getElem?_eq_none (by rw[hacc.1]at h1;exact h1)];rfl
  have hle:(s1.heap.push { cls:=.type "dict_values",data:=.fields #[.ref d] }).objs.size<=(s1.heap.push { cls:=.type "dict_values",data:=.fields #[.ref d] }).objs.size:=Nat.le_refl _;exact⟨.ref (s1.heap.push { cls:=.type "dict_values",data:=.fields #[.ref d] }).objs.size,_,I2.laid (t':=tk) hk hle (show cX X.prog X.w _ h' _ (.lst (kvs.map (·.2)))from⟨by rw[length_map];exact z,acc'.toList,c',by rw[ea];exact A3 rel,by rw[Array.toArray_toList];exact hD⟩),rfl,q _ (I2.hok.fresh hle)⟩
 show wpAny _ _ (callWith cpos (.builtin "dict.values") [.ref d] [] []) _ X.xe s1;refine method_meetsIn F.slot_dict_values F.entry_dict_values rfl (PySem.evalArgs_none ⟨rfl,dd.typeIs,F.args_dict_values_1 _,_,meets_dict_values (bM X.prog X.w) d hsm,⟨vs,dd⟩,?_⟩);exact Calls.spliced_nil fin
end L2
namespace Pc
open L2
inductive Fn where
 |Rates|Statement|Payment|Book|CallList|Entry|Reading|Rates___init__|Statement___init__|Statement_agree_on|Statement_dispute_since|Statement_mean_with|Statement_agree_by_time|Payment___init__|shift_positions|Book___init__|Book_start_anew|Book_has_house|Book_give_rates|Book_rates_of|Book_give_money_rate|Book_pass_days|Book_take_statement|Book_find_statement|Book_agreed_statements|Book_take_payment|Book_debt_of|Book_reckon_positions|CallList___init__|CallList_at_end|CallList_take_number|CallList_take_row|CallList_take_arguments|full_figure|worth_of|dues|transit|orders|plan_payments|payments_within|part_into_groups|sums_of_choices|most_groups|choices_without_one|first_choice|rank|members|Entry___init__|Reading___init__|read_text|written|line_of|take_line|house_behind|take_entry|numbers_behind|number_of|words_of|parts_between|bytes_of|begin|set_rates|set_money|go_on_days|send|lacks_money_rate|accept|dispute|yield_to_other|stand_on_full|tell_statement|tell_debt|tell_position|tell_plan|pay|settle|judge|can_be_judged|read_out|tell_payments|tell_groups|tell_counts|as_row|in_threes|sum_of|refusal_of_text|agree_on_full|refusal_unless_in_state|refusal_unless_statement|answers
structure Tx (K:PySem.W.Frag)(mg:Str->Option Value)(ad:Fn->Addr)(fdt:Fn->FuncData):Prop where
 k_Rates:lS K (ad .Rates)
 c_Rates:zn K mg "Rates" (ad .Rates) (ad .Rates___init__)
 i_Rates:fX K "__init__" "Rates.__init__" dU (ad .Rates___init__) (fdt .Rates___init__)
 b_Rates:dm K (fdt .Rates___init__) ["self","kilogram","piece","mile"] []
 n_Rates_kilogram:aN K (ad .Rates) "kilogram"
 n_Rates_piece:aN K (ad .Rates) "piece"
 n_Rates_mile:aN K (ad .Rates) "mile"
 k_Statement:lS K (ad .Statement)
 c_Statement:zn K mg "Statement" (ad .Statement) (ad .Statement___init__)
 i_Statement:fX K "__init__" "Statement.__init__" cN (ad .Statement___init__) (fdt .Statement___init__)
 b_Statement:dm K (fdt .Statement___init__) ["self","sender","receiver","day","full"] []
 n_Statement_sender:aN K (ad .Statement) "sender"
 n_Statement_receiver:aN K (ad .Statement) "receiver"
 n_Statement_day:aN K (ad .Statement) "day"
 n_Statement_full:aN K (ad .Statement) "full"
 n_Statement_state:aN K (ad .Statement) "state"
 n_Statement_since:aN K (ad .Statement) "since"
 n_Statement_figure:aN K (ad .Statement) "figure"
 k_Payment:lS K (ad .Payment)
 c_Payment:zn K mg "Payment" (ad .Payment) (ad .Payment___init__)
 i_Payment:fX K "__init__" "Payment.__init__" ee (ad .Payment___init__) (fdt .Payment___init__)
 b_Payment:dm K (fdt .Payment___init__) ["self","payer","payee","amount"] []
 n_Payment_payer:aN K (ad .Payment) "payer"
 n_Payment_payee:aN K (ad .Payment) "payee"
 n_Payment_amount:aN K (ad .Payment) "amount"
 k_Book:lS K (ad .Book)
 c_Book:zn K mg "Book" (ad .Book) (ad .Book___init__)
 i_Book:fX K "__init__" "Book.__init__" fL (ad .Book___init__) (fdt .Book___init__)
 b_Book:dm K (fdt .Book___init__) ["self"] []
 n_Book_day:aN K (ad .Book) "day"
 n_Book_houses:aN K (ad .Book) "houses"
 n_Book_rates:aN K (ad .Book) "rates"
 n_Book_moneys:aN K (ad .Book) "moneys"
 n_Book_statements:aN K (ad .Book) "statements"
 n_Book_payments:aN K (ad .Book) "payments"
 k_CallList:lS K (ad .CallList)
 c_CallList:zn K mg "CallList" (ad .CallList) (ad .CallList___init__)
 i_CallList:fX K "__init__" "CallList.__init__" cV (ad .CallList___init__) (fdt .CallList___init__)
 b_CallList:dm K (fdt .CallList___init__) ["self","calls"] []
 n_CallList_calls:aN K (ad .CallList) "calls"
 n_CallList_place:aN K (ad .CallList) "place"
 k_Entry:lS K (ad .Entry)
 c_Entry:zn K mg "Entry" (ad .Entry) (ad .Entry___init__)
 i_Entry:fX K "__init__" "Entry.__init__" c7 (ad .Entry___init__) (fdt .Entry___init__)
 b_Entry:dm K (fdt .Entry___init__) ["self","name","numbers"] []
 n_Entry_name:aN K (ad .Entry) "name"
 n_Entry_numbers:aN K (ad .Entry) "numbers"
 k_Reading:lS K (ad .Reading)
 c_Reading:zn K mg "Reading" (ad .Reading) (ad .Reading___init__)
 i_Reading:fX K "__init__" "Reading.__init__" cA (ad .Reading___init__) (fdt .Reading___init__)
 b_Reading:dm K (fdt .Reading___init__) ["self"] []
 n_Reading_wrong_line:aN K (ad .Reading) "wrong_line"
 n_Reading_sender:aN K (ad .Reading) "sender"
 n_Reading_receiver:aN K (ad .Reading) "receiver"
 n_Reading_entries:aN K (ad .Reading) "entries"
 m_Statement_agree_on:lT K (ad .Statement) "agree_on" "Statement.agree_on" cO ["self","figure"] (ad .Statement_agree_on) (fdt .Statement_agree_on)
 m_Statement_dispute_since:lT K (ad .Statement) "dispute_since" "Statement.dispute_since" cF ["self","day","other"] (ad .Statement_dispute_since) (fdt .Statement_dispute_since)
 m_Statement_mean_with:lT K (ad .Statement) "mean_with" "Statement.mean_with" cC ["self","other"] (ad .Statement_mean_with) (fdt .Statement_mean_with)
 m_Statement_agree_by_time:lT K (ad .Statement) "agree_by_time" "Statement.agree_by_time" cG ["self","today"] (ad .Statement_agree_by_time) (fdt .Statement_agree_by_time)
 f_shift_positions:dC K mg "shift_positions" gP ["positions","giver","taker","amount"] (ad .shift_positions) (fdt .shift_positions)
 m_Book_start_anew:lT K (ad .Book) "start_anew" "Book.start_anew" gQ ["self","houses"] (ad .Book_start_anew) (fdt .Book_start_anew)
 m_Book_has_house:lT K (ad .Book) "has_house" "Book.has_house" ir ["self","house"] (ad .Book_has_house) (fdt .Book_has_house)
 m_Book_give_rates:lT K (ad .Book) "give_rates" "Book.give_rates" gR ["self","house","rates"] (ad .Book_give_rates) (fdt .Book_give_rates)
 m_Book_rates_of:lT K (ad .Book) "rates_of" "Book.rates_of" i7 ["self","house"] (ad .Book_rates_of) (fdt .Book_rates_of)
 m_Book_give_money_rate:lT K (ad .Book) "give_money_rate" "Book.give_money_rate" eF ["self","money","rate"] (ad .Book_give_money_rate) (fdt .Book_give_money_rate)
 m_Book_pass_days:lT K (ad .Book) "pass_days" "Book.pass_days" iw ["self","days"] (ad .Book_pass_days) (fdt .Book_pass_days)
 m_Book_take_statement:lT K (ad .Book) "take_statement" "Book.take_statement" e8 ["self","sender","receiver","full"] (ad .Book_take_statement) (fdt .Book_take_statement)
 m_Book_find_statement:lT K (ad .Book) "find_statement" "Book.find_statement" e9 ["self","number"] (ad .Book_find_statement) (fdt .Book_find_statement)
 m_Book_agreed_statements:lT K (ad .Book) "agreed_statements" "Book.agreed_statements" d7 ["self"] (ad .Book_agreed_statements) (fdt .Book_agreed_statements)
 m_Book_take_payment:lT K (ad .Book) "take_payment" "Book.take_payment" fT ["self","payment"] (ad .Book_take_payment) (fdt .Book_take_payment)
 m_Book_debt_of:lT K (ad .Book) "debt_of" "Book.debt_of" jD ["self","house","other"] (ad .Book_debt_of) (fdt .Book_debt_of)
 m_Book_reckon_positions:lT K (ad .Book) "reckon_positions" "Book.reckon_positions" ez ["self"] (ad .Book_reckon_positions) (fdt .Book_reckon_positions)
 m_CallList_at_end:lT K (ad .CallList) "at_end" "CallList.at_end" eG ["self"] (ad .CallList_at_end) (fdt .CallList_at_end)
 m_CallList_take_number:lT K (ad .CallList) "take_number" "CallList.take_number" bP ["self"] (ad .CallList_take_number) (fdt .CallList_take_number)
 m_CallList_take_row:lT K (ad .CallList) "take_row" "CallList.take_row" cW ["self"] (ad .CallList_take_row) (fdt .CallList_take_row)
 m_CallList_take_arguments:lT K (ad .CallList) "take_arguments" "CallList.take_arguments" cI ["self","numbers","rows"] (ad .CallList_take_arguments) (fdt .CallList_take_arguments)
 f_full_figure:dC K mg "full_figure" ic ["entries","rates","moneys"] (ad .full_figure) (fdt .full_figure)
 f_worth_of:dC K mg "worth_of" iR ["entry","rates","moneys"] (ad .worth_of) (fdt .worth_of)
 f_dues:dC K mg "dues" sk ["numbers","rates"] (ad .dues) (fdt .dues)
 f_transit:dC K mg "transit" jZ ["numbers","rates"] (ad .transit) (fdt .transit)
 f_orders:dC K mg "orders" lw ["numbers","moneys"] (ad .orders) (fdt .orders)
 f_plan_payments:dC K mg "plan_payments" i8 ["positions"] (ad .plan_payments) (fdt .plan_payments)
 f_payments_within:dC K mg "payments_within" gU ["group","positions"] (ad .payments_within) (fdt .payments_within)
 f_part_into_groups:dC K mg "part_into_groups" gv ["positions"] (ad .part_into_groups) (fdt .part_into_groups)
 f_sums_of_choices:dC K mg "sums_of_choices" gW ["amounts"] (ad .sums_of_choices) (fdt .sums_of_choices)
 f_most_groups:dC K mg "most_groups" kr ["sums"] (ad .most_groups) (fdt .most_groups)
 f_choices_without_one:dC K mg "choices_without_one" fc ["choice"] (ad .choices_without_one) (fdt .choices_without_one)
 f_first_choice:dC K mg "first_choice" jF ["left","houses","sums","most"] (ad .first_choice) (fdt .first_choice)
 f_rank:dC K mg "rank" AF ["choice","houses"] (ad .rank) (fdt .rank)
 f_members:dC K mg "members" qK ["choice","houses"] (ad .members) (fdt .members)
 f_read_text:dC K mg "read_text" jG ["text"] (ad .read_text) (fdt .read_text)
 f_written:dC K mg "written" qL ["reading"] (ad .written) (fdt .written)
 f_line_of:dC K mg "line_of" qM ["name","numbers"] (ad .line_of) (fdt .line_of)
 f_take_line:dC K mg "take_line" gX ["reading","place","words"] (ad .take_line) (fdt .take_line)
 f_house_behind:dC K mg "house_behind" eK ["name","words"] (ad .house_behind) (fdt .house_behind)
 f_take_entry:dC K mg "take_entry" fY ["reading","words"] (ad .take_entry) (fdt .take_entry)
 f_numbers_behind:dC K mg "numbers_behind" cw ["name","words","bounds"] (ad .numbers_behind) (fdt .numbers_behind)
 f_number_of:dC K mg "number_of" gY ["word"] (ad .number_of) (fdt .number_of)
 f_words_of:dC K mg "words_of" iT ["line"] (ad .words_of) (fdt .words_of)
 f_parts_between:dC K mg "parts_between" du ["numbers","mark"] (ad .parts_between) (fdt .parts_between)
 f_bytes_of:dC K mg "bytes_of" iU ["signs"] (ad .bytes_of) (fdt .bytes_of)
 f_begin:dC K mg "begin" ly ["book","arguments"] (ad .begin) (fdt .begin)
 f_set_rates:dC K mg "set_rates" mT ["book","arguments"] (ad .set_rates) (fdt .set_rates)
 f_set_money:dC K mg "set_money" mU ["book","arguments"] (ad .set_money) (fdt .set_money)
 f_go_on_days:dC K mg "go_on_days" lA ["book","arguments"] (ad .go_on_days) (fdt .go_on_days)
 f_send:dC K mg "send" AG ["book","arguments"] (ad .send) (fdt .send)
 f_lacks_money_rate:dC K mg "lacks_money_rate" gx ["book","entries"] (ad .lacks_money_rate) (fdt .lacks_money_rate)
 f_accept:dC K mg "accept" uB ["book","arguments"] (ad .accept) (fdt .accept)
 f_dispute:dC K mg "dispute" qN ["book","arguments"] (ad .dispute) (fdt .dispute)
 f_yield_to_other:dC K mg "yield_to_other" iy ["book","arguments"] (ad .yield_to_other) (fdt .yield_to_other)
 f_stand_on_full:dC K mg "stand_on_full" ja ["book","arguments"] (ad .stand_on_full) (fdt .stand_on_full)
 f_tell_statement:dC K mg "tell_statement" iz ["book","arguments"] (ad .tell_statement) (fdt .tell_statement)
 f_tell_debt:dC K mg "tell_debt" mV ["book","arguments"] (ad .tell_debt) (fdt .tell_debt)
 f_tell_position:dC K mg "tell_position" jb ["book","arguments"] (ad .tell_position) (fdt .tell_position)
 f_tell_plan:dC K mg "tell_plan" mW ["book","arguments"] (ad .tell_plan) (fdt .tell_plan)
 f_pay:dC K mg "pay" DT ["book","arguments"] (ad .pay) (fdt .pay)
 f_settle:dC K mg "settle" uC ["book","arguments"] (ad .settle) (fdt .settle)
 f_judge:dC K mg "judge" xv ["book","arguments"] (ad .judge) (fdt .judge)
 f_can_be_judged:dC K mg "can_be_judged" jc ["book","payment"] (ad .can_be_judged) (fdt .can_be_judged)
 f_read_out:dC K mg "read_out" oW ["book","arguments"] (ad .read_out) (fdt .read_out)
 f_tell_payments:dC K mg "tell_payments" jd ["book","arguments"] (ad .tell_payments) (fdt .tell_payments)
 f_tell_groups:dC K mg "tell_groups" ku ["book","arguments"] (ad .tell_groups) (fdt .tell_groups)
 f_tell_counts:dC K mg "tell_counts" kx ["book","arguments"] (ad .tell_counts) (fdt .tell_counts)
 f_as_row:dC K mg "as_row" uD ["numbers"] (ad .as_row) (fdt .as_row)
 f_in_threes:dC K mg "in_threes" mX ["payments"] (ad .in_threes) (fdt .in_threes)
 f_sum_of:dC K mg "sum_of" uE ["payments"] (ad .sum_of) (fdt .sum_of)
 f_refusal_of_text:dC K mg "refusal_of_text" gZ ["text","reading"] (ad .refusal_of_text) (fdt .refusal_of_text)
 f_agree_on_full:dC K mg "agree_on_full" je ["book","number","state"] (ad .agree_on_full) (fdt .agree_on_full)
 f_refusal_unless_in_state:dC K mg "refusal_unless_in_state" dX ["book","number","state"] (ad .refusal_unless_in_state) (fdt .refusal_unless_in_state)
 f_refusal_unless_statement:dC K mg "refusal_unless_statement" dM ["book","number"] (ad .refusal_unless_statement) (fdt .refusal_unless_statement)
 f_answers:dC K mg "answers" qO ["calls"] (ad .answers) (fdt .answers)
 g_SENT:∃t,mg "SENT"=some (.int 1 t)
 g_DISPUTED:∃t,mg "DISPUTED"=some (.int 2 t)
 g_AGREED:∃t,mg "AGREED"=some (.int 3 t)
 g_DAYS_OF_SILENCE:∃t,mg "DAYS_OF_SILENCE"=some (.int 60 t)
 g_DAYS_OF_DISPUTE:∃t,mg "DAYS_OF_DISPUTE"=some (.int 90 t)
 g_HOUSES_AT_FIRST:∃t,mg "HOUSES_AT_FIRST"=some (.int 2 t)
 g_GRAMS_IN_KILOGRAM:∃t,mg "GRAMS_IN_KILOGRAM"=some (.int 1000 t)
 g_MILLION:∃t,mg "MILLION"=some (.int 1000000 t)
 g_LINE_END:∃t,mg "LINE_END"=some (.int 10 t)
 g_BLANK:∃t,mg "BLANK"=some (.int 32 t)
 g_DIGIT_0:∃t,mg "DIGIT_0"=some (.int 48 t)
 g_DIGIT_9:∃t,mg "DIGIT_9"=some (.int 57 t)
 g_MOST_DIGITS:∃t,mg "MOST_DIGITS"=some (.int 9 t)
 g_FROM_PLACE:∃t,mg "FROM_PLACE"=some (.int 1 t)
 g_TO_PLACE:∃t,mg "TO_PLACE"=some (.int 2 t)
 g_LAST_PLACE:∃t,mg "LAST_PLACE"=some (.int 12 t)
 g_OUT_OF_RANGE:∃t,mg "OUT_OF_RANGE"=some (.int (-1) t)
 g_WRONG_ROW:∃t,mg "WRONG_ROW"=some (.int (-2) t)
 g_NO_RATE:∃t,mg "NO_RATE"=some (.int (-3) t)
 g_NOT_THERE:∃t,mg "NOT_THERE"=some (.int (-4) t)
 g_NOT_NOW:∃t,mg "NOT_NOW"=some (.int (-6) t)
 g_NOT_SO:∃t,mg "NOT_SO"=some (.int (-7) t)
 g_TOO_MANY:∃t,mg "TOO_MANY"=some (.int (-8) t)
 g_WRONG_LINE:∃t,mg "WRONG_LINE"=some (.int (-1000) t)
 g_FEWEST_HOUSES:∃t,mg "FEWEST_HOUSES"=some (.int 2 t)
 g_MOST_HOUSES:∃t,mg "MOST_HOUSES"=some (.int 10 t)
 g_MOST_RATE:∃t,mg "MOST_RATE"=some (.int 1000000 t)
 g_MOST_MONEYS:∃t,mg "MOST_MONEYS"=some (.int 9 t)
 g_MOST_MONEY_RATE:∃t,mg "MOST_MONEY_RATE"=some (.int 100000000 t)
 g_MOST_DAYS:∃t,mg "MOST_DAYS"=some (.int 1000 t)
 g_LAST_DAY:∃t,mg "LAST_DAY"=some (.int 100000 t)
 g_MOST_BYTES:∃t,mg "MOST_BYTES"=some (.int 1000 t)
 g_MOST_STATEMENTS:∃t,mg "MOST_STATEMENTS"=some (.int 100 t)
 g_MOST_FIGURE:∃t,mg "MOST_FIGURE"=some (.int 1000000000000 t)
 g_CLOSE_ENOUGH:∃t,mg "CLOSE_ENOUGH"=some (.int 20 t)
 g_MOST_PAYMENTS:∃t,mg "MOST_PAYMENTS"=some (.int 400 t)
 g_MOST_AMOUNT:∃t,mg "MOST_AMOUNT"=some (.int 1000000000000 t)
 g_MOST_JUDGED_AMOUNT:∃t,mg "MOST_JUDGED_AMOUNT"=some (.int 1000000000000000 t)
 g_MOST_TOLD:∃t,mg "MOST_TOLD"=some (.int 50 t)
 n_any:mg "any"=none
 n_dict:mg "dict"=none
 n_enumerate:mg "enumerate"=none
 n_len:mg "len"=none
 n_list:mg "list"=none
 n_max:mg "max"=none
 n_min:mg "min"=none
 n_ord:mg "ord"=none
 n_range:mg "range"=none
 n_str:mg "str"=none
 n_sum:mg "sum"=none
 n_zip:mg "zip"=none
end Pc
namespace L2
open PyProof.Rows
section
variable {D:jj}{σ:St}{H:Hp}{Q:VK}{td ty tv te:TE}
theorem FQ (h:td σ H λx H1=>ty σ H1 λy H2=>∃a v,x = .ref a/\dq H2 a y (some v)/\Q v H2):Dt td ty σ H Q:=h
theorem FR (h:tv σ H λv H1=>td σ H1 λx H2=>ty σ H2 λy H3=>∃a H4,x = .ref a/\rW H3 a y v H4/\D.nx σ H4):Du td ty tv D σ H:=h
theorem GF {r:V->Hp->VK->Prop}(h:te σ H λx H1=>r x H1 Q):GN r te σ H Q:=h
theorem GG {g:Int->V}{i:Int}(h:Q (g i) H):rU g (.int i) H Q:=⟨i,rfl,h⟩
theorem FS (h:ty σ H λy H1=>td σ H1 λx H2=>∃a o,x = .ref a/\dq H2 a y o/\Q (.bl (!o.isSome)) H2):w9 ty td σ H Q:=h
theorem EB (h:∀p,H p=none->Q (.ref p) (upd H p (.dK []))):zY σ H Q:=h
theorem CO {ta:TA}{R:It->Hp->Prop}(h:ta σ H λvs H1=>∃(i j c:Int) (n:Nat),vs=[.int i,.int j,.int c]/\Gw i j c n/\R (Gc i c n) H1):Dx ta σ H R:=h
theorem GH {r:V->List V->Hp->VK->Prop}(h:td σ H λx H1=>(∃a,x = .str a)/\te σ H1 λy H2=>r x [y] H2 Q):Gx r td te σ H Q:=h
theorem FT {g:TG}(h:te σ H λx H1=>g x σ H1 D.nx):vC te g D σ H:=h
theorem EC {t:BV}{v:V}{Q:St->Hp->Prop}(h:td σ H λo H1=>ty σ H1 λi H2=>t o i v H2 λH3=>Q σ H3):Fb td ty t v σ H Q:=h
end
end L2
namespace Pc
open L2
def kT (x y z:Int):List (Str×V):=[("payer",.int x),("payee",.int y),("amount",.int z)]
def nH (C:Addr)(H:Hp)(a:Addr)(x:Int×Int×Int):Prop:=∃dx,H a=some (.ins C dx (kT x.1 x.2.1 x.2.2))
def fe (C:Addr)(H:Hp)(a:Addr)(p:Vbpoal.Payment):Prop:=nH C H a ((p.from_:Int),(p.to:Int),(p.amount:Int))
def yP (C:Addr)(H:Hp)(a:Addr)(x:Vbpoal.Statement):Prop:=∃dx,H a=some (.ins C dx (nG x))
def zp (day n:Int)(ra ma sa pa:Addr):List (Str×V):=[("day",.int day),("houses",.int n),("rates",.ref ra),("moneys",.ref ma),("statements",.ref sa),("payments",.ref pa)]
structure BA where
 b:Addr
 ra:Addr
 ma:Addr
 sa:Addr
 pa:Addr
 rs:List Addr
 ss:List Addr
 ps:List Addr
def BA.F (B:BA)(a:Addr):Prop:=a=B.b\/a=B.ra\/a=B.ma\/a=B.sa\/a=B.pa\/a∈B.ss
structure aA (ad:Fn->Addr)(H:Hp)(B:BA)(s:Vbpoal.State):Prop where
 bk:∃dx,H B.b=some (.ins (ad .Book) dx (zp s.day s.houses.length B.ra B.ma B.sa B.pa))
 rl:H B.ra=some (.lst (B.rs.map V.ref))
 rp:Paired (fu (ad .Rates) H) B.rs (s.houses.map jM)
 mo:∃kvs:List (cT×V),H B.ma=some (.dK kvs)/\kvs.length=s.rates.length/\∀k:Int,cS kvs (.inl k)=(dD s k).map V.int
 sl:H B.sa=some (.lst (B.ss.map V.ref))
 sp:Paired (yP (ad .Statement) H) B.ss s.statements
 sn:B.ss.Nodup
 pl:H B.pa=some (.lst (B.ps.map V.ref))
 pp:Paired (fe (ad .Payment) H) B.ps s.payments
 ne:B.ra≠B.sa/\B.ra≠B.pa/\B.sa≠B.pa
structure Wf (s:Vbpoal.State):Prop where
 n:2<=s.houses.length/\s.houses.length<=10
 hr:∀h∈s.houses,kP (jM h)
 rk:∀x∈s.rates,(1<=x.1/\x.1<=9)/\1<=x.2/\x.2<=100000000
 rn:(s.rates.map (·.1)).Nodup
 st:s.statements.length<=100
 si:∀x∈s.statements,tJ s.houses.length (nu x)
 pl:s.payments.length<=400
 pi:∀p∈s.payments,tJ s.houses.length (fC p)
structure Fr (H:Hp)(B:BA)(H':Hp)(B':BA):Prop where
 keep:∀a o,H a=some o->¬B.F a->H' a=some o
 new:∀a,B'.F a->B.F a\/H a=none
theorem aA.same {ad:Fn->Addr}{H H':Hp}{B:BA}{s:Vbpoal.State}(h:aA ad H B s)(e:au H H'):aA ad H' B s:=by obtain⟨⟨dx,a1⟩,a2,a3,⟨kvs,a4,a5⟩,a6,a7,a8,a9,a10,a11⟩:=h;exact⟨⟨dx,e _ _ a1⟩,e _ _ a2,aK a3 λ_ _ _ ⟨d,q⟩=>⟨d,e _ _ q⟩,⟨kvs,e _ _ a4,a5⟩,e _ _ a6,aK a7 λ_ _ _ ⟨d,q⟩=>⟨d,e _ _ q⟩,a8,e _ _ a9,aK a10 λ_ _ _ ⟨d,q⟩=>⟨d,e _ _ q⟩,a11⟩
theorem Fr.same {H H':Hp}{B:BA}(e:au H H'):Fr H B H' B:=⟨λa o h _=>e a o h,λa h=>.inl h⟩
def bC (n:Nat)(f:Nat->Int):List (cT×V):=(Vbpoal.nums n).map λ(h:Nat)=>(Sum.inl (h:Int),V.int (f h))
theorem gA {n h:Nat}:h∈Vbpoal.nums n↔1<=h/\h<=n:=by
 unfold Vbpoal.nums;rw[mem_map];constructor
 .rintro⟨i,hi,rfl⟩;have:=mem_range.mp hi;omega
 .rintro⟨h1,h2⟩;exact⟨h-1,mem_range.mpr (by omega),by omega⟩
theorem jN (n:Nat)(f:Nat->Int):(bC n f).length=n:=by unfold bC Vbpoal.nums;rw[length_map,length_map,length_range]
theorem sK {a b:Nat}:(Sum.inl (a:Int):cT)=Sum.inl (b:Int)↔a=b:=⟨λh=>by have:=Sum.inl.inj h;omega,λh=>by rw[h]⟩
theorem eU {n h:Nat}{f:Nat->Int}(h1:1<=h/\h<=n):cS (bC n f) (.inl (h:Int))=some (.int (f h)):=by
 unfold bC;have hm:h∈Vbpoal.nums n:=gA.mpr h1;revert hm;generalize Vbpoal.nums n=l
 induction l with
 |nil=>intro q;cases q
 |cons x l ih=>
  intro q;rw[map_cons];by_cases e:x=h
  .subst e;exact dn rfl
  .rw[cY (λz=>e (sK.mp z))];exact ih ((mem_cons.mp q).resolve_left (λz=>e z.symm))
theorem fv {n:Nat}{f g:Nat->Int}(h:∀k,1<=k->k<=n->f k=g k):bC n f=bC n g:=by unfold bC;refine map_congr_left λk hk=>?_;obtain⟨a,b⟩:=gA.mp hk;rw[h k a b]
theorem uT {n h:Nat}{f:Nat->Int}{z:Int}(h1:1<=h/\h<=n):gE (bC n f) (.inl (h:Int)) (.int z)=bC n λk=>if k=h then z else f k:=by
 unfold gE;have hs:((bC n f).any λkv=>decide (kv.1=Sum.inl (h:Int)))=true:=by rw[gr,eU h1];rfl
 rw[if_pos hs];unfold bC;rw[map_map];refine map_congr_left λ(k:Nat) _=>?_;show(if (Sum.inl (k:Int):cT)=Sum.inl (h:Int)then(Sum.inl (k:Int),V.int z)else(Sum.inl (k:Int),V.int (f k)))=(Sum.inl (k:Int),V.int (if k=h then z else f k));by_cases e:k=h
 .rw[if_pos (sK.mpr e),if_pos e]
 .rw[if_neg (λq=>e (sK.mp q)),if_neg e]
theorem yQ {n:Nat}{f:Nat->Int}{k:Nat}(h:n<k):cS (bC n f) (.inl (k:Int))=none:=by
 unfold bC;have hm:∀x∈Vbpoal.nums n,x≠k:=λx hx=>by have:=gA.mp hx;omega
 revert hm;generalize Vbpoal.nums n=l
 induction l with
 |nil=>intro _;rfl
 |cons x l ih=>
  intro q;rw[map_cons,cY (λz=>q x mem_cons_self (sK.mp z))];exact ih λy hy=>q y (mem_cons_of_mem _ hy)
theorem A5 {n:Nat}{f:Nat->Int}{z:Int}:gE (bC n f) (.inl ((n+1:Nat):Int)) (.int z)=bC (n+1) λk=>if k=n+1 then z else f k:=by
 unfold gE;have hs:((bC n f).any λkv=>decide (kv.1=Sum.inl ((n+1:Nat):Int)))=false:=by rw[gr,yQ (lt_succ_self n)];rfl
 rw[if_neg (by rw[hs];decide)];have e:bC n f=bC n λk=>if k=n+1 then z else f k:=fv λk _ h=>by rw[if_neg (by omega)]
 rw[e];unfold bC;rw[qo,map_append];show _=_++[(Sum.inl ((n+1:Nat):Int),V.int (if n+1=n+1 then z else f (n+1)))];rw[if_pos rfl]
end Pc
local macro_rules | `(tactic| walk_at "rx") => `(tactic| repeat (first | (with_reducible first | refine L2.DC rfl ?_ | refine L2.xn ?_ | refine L2.sf ?_ | refine L2.GT ?_ | refine L2.qI ?_ | refine L2.Fx ?_ | refine L2.DB ?_ | refine L2.FA ?_ | refine L2.qJ ?_ | refine L2.DK ?_ | refine L2.DJ ?_ | refine L2.Fy ?_ | refine L2.Ai ?_ | refine L2.Ew ?_ | refine L2.GU ?_ | refine L2.r9 ?_ | refine L2.FE ?_ | refine L2.Ag ?_ | refine L2.nU ?_ | refine L2.Cr ?_ | refine L2.DD ?_ | refine L2.DE ?_ | refine L2.DF ?_ | refine L2.FB ?_ | refine L2.DG ?_ | refine L2.DH ?_ | refine L2.Fz ?_ | refine L2.Aj ?_ | refine L2.DI ?_ | refine L2.xl ?_ | refine L2.DP ?_ | refine L2.FH ?_ | refine L2.FI ?_ | refine L2.FJ ?_ | refine L2.FK ?_ | refine L2.FL ?_ | refine L2.Ak ?_ | refine L2.DL ?_ | refine L2.FC ?_ | refine L2.FF ?_ | refine L2.xp ?_ | refine L2.xq ?_ | refine L2.DQ ?_ | refine L2.Au ?_ | refine L2.xr ?_ | refine L2.uy ?_ | refine L2.FG ?_ | refine L2.uw ?_ | refine L2.Ar ?_ | refine L2.DO ?_ | refine L2.Ao ?_ | refine L2.DN ?_ | refine L2.Ap ?_ | refine L2.DM ?_ | refine L2.xo ?_ | refine L2.An ?_ | refine L2.rZ ?_ | refine L2.jz ?_ | refine L2.DR ?_ | refine L2.Av ?_ | refine L2.Al (by walk_at "sq") ?_ | refine ⟨_, _, rfl, Or.inl (by walk_at "sq"), ?_⟩ | refine L2.FQ ?_ | refine L2.FR ?_ | refine L2.GF ?_ | refine L2.GG ?_ | refine L2.FS ?_ | refine L2.EB ?_ | refine L2.CO ?_ | refine L2.GH ?_ | refine L2.FT ?_ | refine L2.EC ?_) | refine ⟨_, _, _, _, _, rfl, by walk_at "at", by assumption, by assumption, by rfl, ?_⟩ | refine ⟨_, _, _, _, rfl, by walk_at "at", by assumption, by assumption, Nat.le_of_ble_eq_true rfl, ?_⟩ | refine ⟨_, _, _, rfl, by walk_at "at", by rfl, ?_⟩))
local macro_rules | `(tactic| walk_at "sm") => `(tactic| first | exact L2.au.refl _ | assumption | (refine L2.au.upd_new ?_ ?_; (walk_at "sm"); (walk_at "nn")) | (refine L2.au.trans ?_ ?_; assumption; (walk_at "sm")))
local macro_rules | `(tactic| walk_at "nn") => `(tactic| first | assumption | (refine L2.au.none_of ?_ ?_; rotate_left; assumption; (walk_at "sm")))
local macro_rules | `(tactic| walk_at "bk") => `(tactic| (have := Pc.Tx.k_Book (by assumption); have := Pc.Tx.n_Book_day (by assumption); have := Pc.Tx.n_Book_houses (by assumption); have := Pc.Tx.n_Book_rates (by assumption); have := Pc.Tx.n_Book_moneys (by assumption); have := Pc.Tx.n_Book_statements (by assumption); have := Pc.Tx.n_Book_payments (by assumption)))
local macro_rules | `(tactic| walk_at "st") => `(tactic| (have := Pc.Tx.k_Statement (by assumption); have := Pc.Tx.n_Statement_sender (by assumption); have := Pc.Tx.n_Statement_receiver (by assumption); have := Pc.Tx.n_Statement_day (by assumption); have := Pc.Tx.n_Statement_full (by assumption); have := Pc.Tx.n_Statement_state (by assumption); have := Pc.Tx.n_Statement_since (by assumption); have := Pc.Tx.n_Statement_figure (by assumption)))
local macro_rules | `(tactic| walk_at "py") => `(tactic| (have := Pc.Tx.k_Payment (by assumption); have := Pc.Tx.n_Payment_payer (by assumption); have := Pc.Tx.n_Payment_payee (by assumption); have := Pc.Tx.n_Payment_amount (by assumption)))
variable {ad:Pc.Fn->Addr}{fdt:Pc.Fn->FuncData}{tc tp:Addr}
namespace Pc
open L2
theorem Tx.tst (T:Tx K mg ad fdt):E6 K mg (ad .Statement):=⟨T.k_Statement,T.n_Statement_sender,T.n_Statement_receiver,T.n_Statement_day,T.n_Statement_full,T.n_Statement_state,T.n_Statement_since,T.n_Statement_figure,T.g_SENT,T.g_DISPUTED,T.g_AGREED,T.g_DAYS_OF_SILENCE,T.g_DAYS_OF_DISPUTE⟩
theorem Tx.tra (T:Tx K mg ad fdt):FN K (ad .Rates):=⟨T.k_Rates,T.n_Rates_kilogram,T.n_Rates_piece,T.n_Rates_mile⟩
inductive yR (C:Addr)(vs:List V)(H:Hp)(Q:VK)(E:XK):Prop
 |mk (x dx:Addr)(a b c:Int)(_:vs=[.ref x,.int a,.int b,.int c])(_:H x=some (.ins C dx []))(_:Q .non (upd H x (.ins C dx (kT a b c))))
theorem fN (T:Tx K mg ad fdt):aG P w K mg base bO 1 (ad .Payment___init__) (fdt .Payment___init__) ["self","payer","payee","amount"] (yR (ad .Payment)):=by
 refine T.i_Payment.ok kf (λvs H Q E h=>?_) (λcdv A outer s H vs Q E hr h=>?_)
 .obtain⟨_,_,_,_,_,rfl,_⟩:=h
  rfl
 .obtain⟨x,dx,a,b,c,rfl,hx,k⟩:=h;have cl:=T.k_Payment;have n1:=T.n_Payment_payer;have n2:=T.n_Payment_payee;have n3:=T.n_Payment_amount;refine⟨_,(ae (bp (pv 0) (pv 1) rfl) (ae (bp (pv 0) (pv 2) rfl) (ai (bp (pv 0) (pv 3) rfl)))),?_⟩;walk_at"prep";walk_at"rx";rw[bH,bH];exact k
def A6 (g t:Nat)(a:Int)(h:Nat):Int:=(if g=h then a else 0)-(if t=h then a else 0)
theorem A7 (f:Nat->Int)(g t:Nat)(a:Int)(k:Nat):(if k=t then(if t=g then f g+a else f t)-a else(if k=g then f g+a else f k))=f k+A6 g t a k:=by
 unfold A6;by_cases e1:k=t
 .subst e1;rw[if_pos rfl,if_pos rfl];by_cases e2:k=g
  .subst e2;rw[if_pos rfl,if_pos rfl];omega
  .rw[if_neg e2,if_neg (λz=>e2 z.symm)];omega
 .rw[if_neg e1,if_neg (show¬t=k from λz=>e1 z.symm)];by_cases e2:k=g
  .subst e2;rw[if_pos rfl,if_pos rfl];omega
  .rw[if_neg e2,if_neg (show¬g=k from λz=>e2 z.symm)];omega
inductive CP (vs:List V)(H:Hp)(Q:VK)(E:XK):Prop
 |mk (pa:Addr)(n g t:Nat)(f:Nat->Int)(a:Int)(_:vs=[.ref pa,.int g,.int t,.int a])(_:H pa=some (.dK (bC n f)))(_:n<=10)(_:(1<=g/\g<=n))(_:(1<=t/\t<=n))(_:Q .non (upd H pa (.dK (bC n λh=>f h+A6 g t a h))))
theorem pj (T:Tx K mg ad fdt):aG P w K mg base bO 1 (ad .shift_positions) (fdt .shift_positions) ["positions","giver","taker","amount"] CP:=by
 refine T.f_shift_positions.fn.ok kI (λvs H Q E h=>?_) (λcdv A outer s H vs Q E hr h=>?_)
 .obtain⟨_,_,_,_,_,_,rfl,_⟩:=h
  rfl
 .obtain⟨pa,n,g,t,f,a,rfl,hp,hn,hg,ht,k⟩:=h;have hu:=kq hr;refine⟨_,(ae (nN hu (pv 0) (pv 1) (aL cD (dS hu (pv 0) (pv 1) (λ_ _=>rfl)) (pv 3)) rfl) (ai (nN hu (pv 0) (pv 2) (aL d5 (dS hu (pv 0) (pv 2) (λ_ _=>rfl)) (pv 3)) rfl))),?_⟩;walk_at"prep";have g1:dq H pa (.int (g:Int)) (some (.int (f g))):=by have q:dq H pa (V.int (g:Int)) (cS (bC n f) (.inl (g:Int))):=dq.k (k:=Sum.inl (g:Int)) hp;rw[eU hg]at q;exact q
  walk_at"rx";refine⟨pa,_,rfl,g1,?_⟩;walk_at"rx";refine⟨pa,_,rfl,rW.k (k:=Sum.inl (g:Int)) hp (by rw[jN,sizeLine_eq];omega),?_⟩;rw[uT hg];have g2:dq (upd H pa (.dK (bC n λk=>if k=g then f g+a else f k))) pa (.int (t:Int)) (some (.int ((λk=>if k=g then f g+a else f k) t))):=by have q:dq (upd H pa (.dK (bC n λk=>if k=g then f g+a else f k))) pa (V.int (t:Int)) (cS (bC n λk=>if k=g then f g+a else f k) (.inl (t:Int))):=dq.k (k:=Sum.inl (t:Int)) ac;rw[eU ht]at q;exact q
  walk_at"rx";refine⟨pa,_,rfl,g2,?_⟩;walk_at"rx";refine⟨pa,_,rfl,rW.k (k:=Sum.inl (t:Int)) ac (by rw[jN,sizeLine_eq];omega),?_⟩;rw[uT ht,bH];rw[show(bC n λk=>if k=t then(λk=>if k=g then f g+a else f k) t-a else(λk=>if k=g then f g+a else f k) k)=bC n λh=>f h+A6 g t a h from fv λk _ _=>A7 f g t a k];exact k
theorem uU {n:Nat}(h:n<=10):2^n<=1024:=le_trans (Nat.pow_le_pow_right (by decide) h) (by decide)
theorem wb (as:List Int)(a:Int):eY (as++[a])=eY as++(eY as).map λt=>t+a:=by unfold eY;rw[foldl_append];rfl
inductive ED (K:PySem.W.Frag)(vs:List V)(H:Hp)(Q:VK)(E:XK):Prop
 |mk (a:Addr)(as:List Int)(_:vs=[.ref a])(_:aR K H a (as.map V.int))(_:as.length<=10)(_:∀(H':Hp) (p:Addr),au H H'->H p=none->LI H' p (eY as)->Q (.ref p) H')
theorem CQ (T:Tx K mg ad fdt):aG P w K mg base bO 1 (ad .sums_of_choices) (fdt .sums_of_choices) ["amounts"] (ED K):=by
 refine T.f_sums_of_choices.fn.ok b9 (λvs H Q E h=>?_) (λcdv A outer s H vs Q E hr h=>?_)
 .obtain⟨_,_,rfl,_⟩:=h
  rfl
 .obtain⟨a,as,rfl,ha,hlen,k⟩:=h;refine⟨_,(ae (aq (i:=1) b9.nd rfl (Or.inl rfl) (aw (ab al af))) (ae (ci PassesOwn.never rfl (bx (pv 0)) (aQ (i:=2) b9.nd rfl (Or.inr rfl)) (ai (aq (i:=1) b9.nd rfl (Or.inl rfl) (aL d9 (pv 1) (im (own:=[("total",3)]) rfl b9.nd (bx (pv 1)) (dI rfl) (λs H C cl fp=>(aQ (i:=3) b9.nd rfl (Or.inl rfl))) (λs H C cl fp=>eE) (λs H C cl fp=>(aL cD (pv 3) (pv 2)))))))) (ai (ao (pv 1))))),?_⟩;walk_at"prep";walk_at"rx";refine aD (by decide) (λp hp=>?_);walk_at"rx";refine⟨a,rfl,⟨_,((au.refl H).upd_new hp).seq ha⟩,?_⟩;refine bX (K:=K) (a:=a) (xs:=as.map V.int) (λi σ H'=>∃p z2 z3,σ=[some (.ref a),some (.ref p),z2,z3]/\au H H'/\H p=none/\LI H' p (eY (as.take i)))
   ⟨p,none,none,rfl,(au.refl H).upd_new hp,hp,ac⟩ (λi σ H' _ ⟨_,_,_,_,e,_⟩=>e.seq ha) ?_ ?_
  .rintro i y σ H' hi ⟨p,z2,z3,rfl,sm,hp,hl⟩;obtain⟨x,hx,rfl⟩:=bb hi;have il:i<as.length:=(List.getElem?_eq_some_iff.mp hx).1;have sl:(eY (as.take i)).length<=1024:=by rw[(nI (as.take i)).1,length_take];exact uU (by omega)
   walk_at"rx";refine⟨p,rfl,⟨_,aR.of hl⟩,λD hD=>?_⟩;have hD0:H D=none:=sm.none_of hD;have npD:p≠D:=aj hl hD;refine fM (J:=vo K p) (n:=(eY (as.take i)).length) (λj H2=>au H H2/\LI H2 p (eY (as.take i))/\LI H2 D (((eY (as.take i)).take j).map λt=>t+x))
    ⟨sm.upd_new hD0,by show upd _ _ _ _=_;rw[ah npD];exact hl,ac⟩ (λH2 h=>⟨_,aR.of h.2.1,by rw[length_map];exact Nat.le_refl _⟩) (λj H2 hj h=>⟨_,.int (eY (as.take i))[j],aR.of h.2.1,by rw[getElem?_map,List.getElem?_eq_getElem hj];rfl⟩) ?_ ?_
   .rintro j H2 y H3 hj ⟨s2,hl2,hd2⟩ ⟨e,hy⟩;subst e;obtain⟨t,ht,rfl⟩:=bb (hy _ (aR.of hl2));walk_at"rx";refine⟨rfl,?_⟩;walk_at"rx";refine⟨_,hd2,?_,s2.upd_new hD0,by show upd _ _ _ _=_;rw[ah npD];exact hl2,?_⟩
    .rw[length_map,length_map,length_take,sizeLine_eq];omega
    .show upd _ _ _ _=_;rw[ac,aT ht,map_append,map_append];rfl
   .rintro H2 ⟨s2,hl2,hd2⟩;rw[take_length]at hd2;refine⟨p,D,_,_,rfl,rfl,hl2,hd2,by rw[length_map,length_map,length_map,sizeLine_eq];omega,λq hq=>?_⟩;refine⟨q,_,_,rfl,s2.upd_new (s2.none_of hq),s2.none_of hq,?_⟩;show upd _ _ _ _=_;rw[ac,aT hx,wb,map_append]
  .rintro σ H' ⟨p,z2,z3,rfl,sm,hp,hl⟩;rw[length_map,take_length]at hl;walk_at"rx";exact k H' p sm hp hl
theorem sL (c m:Nat):Builtin.bitAnd (c:Int) (m:Int)=((c &&& m:Nat):Int):=by
 rw[PyProof.Rows.bitAnd_pp (Int.natCast_nonneg _) (Int.natCast_nonneg _)]
 rfl
theorem sM {c i m:Nat}(e:m=2^i):(¬Builtin.bitAnd (c:Int) (m:Int)=0)↔testBit c i=true:=by rw[sL,<- rG,e];generalize c &&& 2^i=n;omega
def A8 (c k:Nat):List Int:=((List.range k).filter λi=>testBit c i).map λi=>((c-2^i:Nat):Int)
theorem uV (c k:Nat):A8 c (k+1)=A8 c k++if testBit c k=true then[((c-2^k:Nat):Int)]else[]:=by
 unfold A8;rw[List.range_succ,filter_append,map_append]
 congr 1
 cases e:testBit c k<;>simp[e]
theorem CS (c k:Nat):(A8 c k).length<=k:=by unfold A8;rw[length_map];exact le_trans (length_filter_le _ _) (by rw[length_range];exact Nat.le_refl _)
inductive GI (vs:List V)(H:Hp)(Q:VK)(E:XK):Prop
 |mk (c:Nat)(_:vs=[.int c])(_:c<=1024)(_:∀(H':Hp) (p:Addr) (k:Nat),au H H'->H p=none->c<2^k->k<=11->LI H' p (A8 c k)->Q (.ref p) H')
def EE:St->Nat
 |[_,_,some (.int b)]=>(2049-b).toNat
 |_=>0
theorem wc (T:Tx K mg ad fdt):aG P w K mg base bO 1 (ad .choices_without_one) (fdt .choices_without_one) ["choice"] GI:=by
 refine T.f_choices_without_one.fn.ok ck (λvs H Q E h=>?_) (λcdv A outer s H vs Q E hr h=>?_)
 .obtain⟨_,rfl,_⟩:=h
  rfl
 .obtain⟨c,rfl,hc,k⟩:=h;refine⟨_,(ae (aq (i:=1) ck.nd rfl (Or.inl rfl) (aw af)) (ae (aq (i:=2) ck.nd rfl (Or.inl rfl) al) (ae (k6 PassesOwn.never (ay dw (pv 2) (pv 0) (aB _)) (ae (bg (ay jt (aL oH (pv 0) (pv 2)) al (aB _)) (ai (aV (dz PySem.F.plainAttrs_list PySem.F.slot_list_append PySem.F.type_list_append bZ (pv 1) (ab (aL d5 (pv 0) (pv 2)) af)))) aE) (ai (aq (i:=2) ck.nd rfl (Or.inl rfl) (aL d6 (pv 2) al))))) (ai (ao (pv 1)))))),?_⟩;walk_at"prep";walk_at"rx";refine aD (by decide) (λp hp=>?_);walk_at"rx";refine tQ (λσ H'=>∃i m:Nat,m=2^i/\σ=[some (.int c),some (.ref p),some (.int (m:Int))]/\i<=11/\au H H'/\LI H' p (A8 c i)) (λσ H'=>EE σ)
   ⟨0,1,rfl,rfl,by decide,(au.refl H).upd_new hp,ac⟩ ?_ ?_
  .rintro σ H' ⟨i,m,em,rfl,hi,sm,hl⟩;walk_at"rx";refine aY (λh1=>?_) (λh1=>?_)
   .have i10:i<=10:=by
     apply Classical.byContradiction;intro q;have:i=11:=by omega
     subst this;have e:(2:Nat)^11=2048:=by decide
     omega
    have p1:m<=1024:=by rw[em];exact uU i10
    have p0:0<m:=by rw[em];exact two_pow_pos i
    have m2:m*2=2^(i+1):=by rw[em,pow_succ]
    have fin:∀(H2:Hp),au H H2->LI H2 p (A8 c (i+1))->(∃i' m':Nat,m'=2^i'/\([some (.int c),some (.ref p),some (.int ((m:Int)*2))]:St)=[some (.int c),some (.ref p),some (.int (m':Int))]/\i'<=11/\au H H2/\LI H2 p (A8 c i'))/\
      EE [some (.int c),some (.ref p),some (.int ((m:Int)*2))]<EE [some (.int c),some (.ref p),some (.int (m:Int))]:=by
     intro H2 s2 l2;refine⟨⟨i+1,m*2,m2,by rw[natCast_mul];rfl,by omega,s2,l2⟩,?_⟩;show(2049-(m:Int)*2).toNat<(2049-(m:Int)).toNat;omega
    walk_at"rx";refine dv (λh2=>?_) (λh2=>?_)
    .have hb:=(sM em).mp h2;walk_at"rx";refine fQ hl (by rw[length_map,sizeLine_eq];have:=CS c i;omega) ?_;walk_at"rx";refine gF (.inr ⟨by decide,by decide⟩) ?_;refine fin _ (sm.upd_new hp) ?_;show upd _ _ _ _=_;rw[ac,uV,if_pos hb,map_append,<- em];have e:((c:Int)-(m:Int))=((c-m:Nat):Int):=by omega
     rw[e];rfl
    .have hb:¬testBit c i=true:=λq=>(sM em).mpr q h2;walk_at"rx";refine gF (.inr ⟨by decide,by decide⟩) ?_;refine fin _ sm ?_;rw[uV,if_neg hb,append_nil];exact hl
   .walk_at"rx";exact k H' p i sm hp (by rw[<- em];omega) hi hl
  .intro σ H Q Q' hQ h;obtain⟨v,hv,u,hu,i,j,e1,e2,b,e3,q⟩:=h;exact⟨v,hv,u,hu,i,j,e1,e2,b,e3,hQ _ _ q⟩
theorem mG {α:Type}:∀(l:List α) (x:α) (S:Nat->Bool),aF S (l++[x])=aF S l++if S l.length=true then[x]else[]
 |[],x,S=>by
  show(if S 0=true then[x]else[])=[]++if S 0=true then[x]else[]
  rw[List.nil_append]
 |a::l,x,S=>by
  show(if S 0=true then a::aF (λi=>S (i+1)) (l++[x])else aF (λi=>S (i+1)) (l++[x]))=(if S 0=true then a::aF (λi=>S (i+1)) l else aF (λi=>S (i+1)) l)++if S (l.length+1)=true then[x]else[]
  rw[mG l x];split<;>rfl
theorem nj {α:Type}:∀(l:List α) (S:Nat->Bool),(aF S l).length<=l.length
 |[],_=>Nat.le_refl _
 |a::l,S=>by
  have:=nj l λi=>S (i+1);unfold aF;split
  .exact succ_le_succ this
  .exact le_succ_of_le this
inductive FU (K:PySem.W.Frag)(vs:List V)(H:Hp)(Q:VK)(E:XK):Prop
 |mk (c:Nat)(a:Addr)(hs:List Int)(_:vs=[.int c,.ref a])(_:aR K H a (hs.map V.int))(_:hs.length<=10)(_:∀(H':Hp) (p:Addr),au H H'->H p=none->LI H' p (aF (testBit c) hs)->Q (.ref p) H')
theorem pk (T:Tx K mg ad fdt):aG P w K mg base bO 1 (ad .members) (fdt .members) ["choice","houses"] (FU K):=by
 refine T.f_members.fn.ok gw (λvs H Q E h=>?_) (λcdv A outer s H vs Q E hr h=>?_)
 .obtain⟨_,_,_,rfl,_⟩:=h
  rfl
 .obtain⟨c,a,hs,rfl,ha,hlen,k⟩:=h;refine⟨_,(ae (aq (i:=2) gw.nd rfl (Or.inl rfl) (aw af)) (ae (aq (i:=3) gw.nd rfl (Or.inl rfl) al) (ae (ci PassesOwn.never rfl (bx (pv 1)) (aQ (i:=4) gw.nd rfl (Or.inl rfl)) (ae (bg (ay jt (aL oH (pv 0) (pv 3)) al (aB _)) (ai (aV (dz PySem.F.plainAttrs_list PySem.F.slot_list_append PySem.F.type_list_append bZ (pv 2) (ab (pv 4) af)))) aE) (ai (aq (i:=3) gw.nd rfl (Or.inl rfl) (aL d6 (pv 3) al))))) (ai (ao (pv 2)))))),?_⟩;walk_at"prep";walk_at"rx";refine aD (by decide) (λp hp=>?_);walk_at"rx";refine⟨a,rfl,⟨_,((au.refl H).upd_new hp).seq ha⟩,?_⟩;refine bX (K:=K) (a:=a) (xs:=hs.map V.int) (λi σ H'=>∃(m:Nat) (z:Option V),σ=[some (.int c),some (.ref a),some (.ref p),some (.int (m:Int)),z]/\m=2^i/\au H H'/\LI H' p (aF (testBit c) (hs.take i)))
   ⟨1,none,rfl,rfl,(au.refl H).upd_new hp,ac⟩ (λi σ H' _ ⟨_,_,_,_,e,_⟩=>e.seq ha) ?_ ?_
  .rintro i y σ H' hi ⟨m,z,rfl,em,sm,hl⟩;obtain⟨x,hx,rfl⟩:=bb hi;have il:i<hs.length:=(List.getElem?_eq_some_iff.mp hx).1;have et:(hs.take i).length=i:=by rw[length_take];omega
   have m2:m*2=2^(i+1):=by rw[em,pow_succ]
   walk_at"rx";refine dv (λh2=>?_) (λh2=>?_)
   .have hb:=(sM em).mp h2;walk_at"rx";refine fQ hl (by rw[length_map,sizeLine_eq];have:=nj (hs.take i) (testBit c);omega) ?_;walk_at"rx";refine gF (.inr ⟨by decide,by decide⟩) ?_;refine⟨m*2,_,by rw[natCast_mul];rfl,m2,sm.upd_new hp,?_⟩;show upd _ _ _ _=_;rw[ac,aT hx,mG,et,if_pos hb,map_append];rfl
   .have hb:¬testBit c i=true:=λq=>(sM em).mpr q h2;walk_at"rx";refine gF (.inr ⟨by decide,by decide⟩) ?_;refine⟨m*2,_,by rw[natCast_mul];rfl,m2,sm,?_⟩;rw[aT hx,mG,et,if_neg hb,append_nil];exact hl
  .rintro σ H' ⟨m,z,rfl,em,sm,hl⟩;rw[length_map,take_length]at hl;walk_at"rx";exact k H' p sm hp hl
def we (c:Nat)(hs:List Int):List Int:=((aF (testBit c) hs).length:Int)::aF (testBit c) hs
inductive A9 (K:PySem.W.Frag)(vs:List V)(H:Hp)(Q:VK)(E:XK):Prop
 |mk (c:Nat)(a:Addr)(hs:List Int)(_:vs=[.int c,.ref a])(_:aR K H a (hs.map V.int))(_:hs.length<=10)(_:∀(H':Hp) (p:Addr),au H H'->kC H' p (we c hs)->Q (.ref p) H')
theorem CT (T:Tx K mg ad fdt):aG P w K mg base bO 2 (ad .rank) (fdt .rank) ["choice","houses"] (A9 K):=by
 have G_members:=pk (P:=P) (w:=w) (base:=base) T;refine T.f_rank.fn.ok xu (λvs H Q E h=>?_) (λcdv A outer s H vs Q E hr h=>?_)
 .obtain⟨_,_,_,rfl,_⟩:=h
  rfl
 .obtain⟨c,a,hs,rfl,ha,hlen,k⟩:=h;refine⟨_,(ae (aq (i:=2) xu.nd rfl (Or.inl rfl) (bG T.f_members G_members (hr.mono (by decide)) (ab (pv 0) (ab (pv 1) af)))) (ai (ao (oM (ab (aI ax (by rfl) T.n_len boot_len (ab (pv 2) af)) (ab (pv 2) af)))))),?_⟩;walk_at"prep";walk_at"rx";refine⟨c,a,hs,rfl,ha,hlen,λH1 g s1 hg hl=>?_⟩;walk_at"rx";rw[length_map];refine⟨(by show 2<=sizeLine;decide),λp hp=>?_⟩;refine k _ p (s1.upd_new (s1.none_of hp)) ⟨_,g,_,rfl,ac,?_⟩;rw[ah (aj hl hp)];exact hl
def ig (as:List Int)(ms:List Nat)(n:Nat):Prop:=ms.length=n/\∀c,c<n->∃m,ms[c]?=some m/\gJ as m (testBit c)
theorem uW {c b n:Nat}(h:testBit c b=true)(hc:c<2^n):b<n:=by apply Classical.byContradiction;intro q;rw[rH hc (by omega)]at h;cases h
theorem iB {c b:Nat}(h:testBit c b=true):2^b<=c:=Nat.ge_two_pow_of_testBit h
theorem yS {as:List Int}{ms:List Nat}{c:Nat}{M:Int}(hm:ig as ms c)(hc:c<2^as.length)(bs:List Nat)(hbs:∀b,b∈bs↔testBit c b=true)(g:Nat->Nat)(hg:∀b∈bs,ms[c-2^b]?=some (g b))
  (h1:M∈bs.map λb=>(g b:Int)) (h2:∀y∈bs.map (λb=>(g b:Int)),y<=M):∃m:Nat,M=(m:Int)/\gJ as (if sm as (testBit c)=0 then m+1 else m) (testBit c):=by
 obtain⟨b0,hb0,e0⟩:=mem_map.mp h1;refine⟨g b0,e0.symm,vt g (λb hb hbc=>?_) ⟨b0,uW ((hbs b0).mp hb0) hc,(hbs b0).mp hb0,rfl⟩ λb hb hbc=>?_⟩
 .have mb:=(hbs b).mpr hbc;have le:=iB hbc;have p0:0<2^b:=two_pow_pos b;obtain⟨m,e1,e2⟩:=hm.2 (c-2^b) (by omega);rw[hg b mb]at e1;cases e1;have e3:testBit (c-2^b)=sd (testBit c) λj=>j==b:=by rw[gK (by rw[oy];intro i hi;rw[beq_iff_eq.mp hi];exact hbc),oy]
  rw[<- e3];exact e2
 .have:=h2 _ (mem_map.mpr ⟨b,(hbs b).mpr hbc,rfl⟩);omega
theorem yT (as:List Int):ig as [0] 1:=by
 refine⟨rfl,λc hc=>?_⟩;have:c=0:=by omega
 subst this;exact⟨0,rfl,oa λi _=>Nat.zero_testBit i⟩
def FV (ms:List Nat)(c b:Nat):Nat:=(ms[c-2^b]?).getD 0
theorem Ba {as:List Int}{ms:List Nat}{c b:Nat}(hm:ig as ms c)(h:testBit c b=true):ms[c-2^b]?=some (FV ms c b):=by have le:=iB h;have p0:0<2^b:=two_pow_pos b;obtain⟨m,e,_⟩:=hm.2 (c-2^b) (by omega);unfold FV;rw[e];rfl
theorem rf {as:List Int}{ms:List Nat}{c m:Nat}(hm:ig as ms c)(h:gJ as m (testBit c)):ig as (ms++[m]) (c+1):=by
 refine⟨by rw[length_append,hm.1];rfl,λd hd=>?_⟩;by_cases e:d=c
 .subst e;exact⟨m,by rw[List.getElem?_append_right (by rw[hm.1];exact Nat.le_refl _),hm.1,Nat.sub_self];rfl,h⟩
 .obtain⟨x,e1,e2⟩:=hm.2 d (by omega);exact⟨x,by rw[List.getElem?_append_left (by rw[hm.1];omega)];exact e1,e2⟩
def lL (c k:Nat):List Nat:=(List.range k).filter λb=>testBit c b
theorem j7 {c k b:Nat}(hc:c<2^k):b∈lL c k↔testBit c b=true:=by unfold lL;rw[mem_filter,mem_range];exact⟨λh=>h.2,λh=>⟨uW h hc,h⟩⟩
theorem yU {c k:Nat}(hc:c<2^k)(h0:c≠0):0<(lL c k).length:=by obtain⟨j,hj,_⟩:=vz (c+1) c (lt_succ_self _) h0;exact List.length_pos_of_mem ((j7 hc).mpr hj)
inductive EF (K:PySem.W.Frag)(vs:List V)(H:Hp)(Q:VK)(E:XK):Prop
 |mk (a:Addr)(as:List Int)(_:vs=[.ref a])(_:aR K H a ((eY as).map V.int))(_:as.length<=10)(_:∀(H':Hp) (p:Addr) (ms:List Nat),au H H'->H p=none->LI H' p (ms.map λ(m:Nat)=>(m:Int))->ig as ms (2^as.length)->Q (.ref p) H')
theorem CU (T:Tx K mg ad fdt):aG P w K mg base bO 2 (ad .most_groups) (fdt .most_groups) ["sums"] (EF K):=by
 have G_choices_without_one:=wc (P:=P) (w:=w) (base:=base) T;refine T.f_most_groups.fn.ok c6 (λvs H Q E h=>?_) (λcdv A outer s H vs Q E hr h=>?_)
 .obtain⟨_,_,rfl,_⟩:=h
  rfl
 .obtain⟨a,as,rfl,ha,hlen,k⟩:=h;refine⟨_,(ae (aq (i:=1) c6.nd rfl (Or.inr rfl) (aw (ab al af))) (ae (ci PassesOwn.never rfl (lZ rfl T.n_range (ab al (ab (aI ax (by rfl) T.n_len boot_len (ab (pv 0) af)) af))) (aQ (i:=2) c6.nd rfl (Or.inl rfl)) (ae (aq (i:=4) c6.nd rfl (Or.inl rfl) (aI (Ej rfl) (by rfl) T.n_max PyProof.Rows.boot_max (ab (im (own:=[("rest",3)]) rfl c6.nd (bx (bG T.f_choices_without_one G_choices_without_one (hr.mono (by decide)) (ab (pv 2) af))) (dI rfl) (λs H C cl fp=>(aQ (i:=3) c6.nd rfl (Or.inl rfl))) (λs H C cl fp=>eE) (λs H C cl fp=>(bf (lj K) (pv 1) (pv 3) (λ_ _=>rfl)))) af))) (ai (aV (dz PySem.F.plainAttrs_list PySem.F.slot_list_append PySem.F.type_list_append bZ (pv 1) (ab (oF (ay dH (bf aJ (pv 0) (pv 2) (λ_ _=>rfl)) al (aB _)) (aL cD (pv 4) al) (pv 4)) af)))))) (ai (ao (pv 1))))),?_⟩;obtain⟨sl,sv⟩:=nI as;have p10:=uU hlen;have pp:0<2^as.length:=two_pow_pos _;walk_at"prep";walk_at"rx";refine aD (by decide) (λp hp=>?_);have s0:au H (upd H p (.lst [V.int 0])):=(au.refl H).upd_new hp;walk_at"rx";refine⟨a,_,rfl,.inl (s0.seq ha),?_⟩;rw[length_map,sl];generalize hN:2^as.length=n at *;refine⟨1,(n:Int),rfl,⟨by omega,by omega,by omega,by omega⟩,?_⟩;refine qt (lo:=1) (n:=((n:Int)-1).toNat) (λi σ H'=>∃(z2 z3 z4:Option V) (ms:List Nat),σ=[some (.ref a),some (.ref p),z2,z3,z4]/\au H H'/\LI H' p (ms.map λ(m:Nat)=>(m:Int))/\ig as ms (i+1))
   ⟨none,none,none,[0],rfl,s0,ac,yT as⟩ ?_ ?_
  .rintro i σ H' hi ⟨z2,z3,z4,ms,rfl,sm,hl,hm⟩;have ec:(1:Int)+(i:Int)=((i+1:Nat):Int):=by omega
   rw[ec];have hcn:i+1<n:=by omega
   have ml:=hm.1;walk_at"rx";refine⟨i+1,rfl,by omega,λH2 q kk s2 hq hck hkk hl2=>?_⟩;refine⟨q,rfl,⟨_,aR.of hl2⟩,λD hD=>?_⟩;have hD1:H' D=none:=s2.none_of hD;have hD0:H D=none:=sm.none_of hD1;have npD:p≠D:=aj hl hD1;have nqD:q≠D:=aj hl2 hD;have hck':i+1<2^as.length:=by rw[hN];exact hcn
   have ech:A8 (i+1) kk=(lL (i+1) kk).map λb=>((i+1-2^b:Nat):Int):=rfl;refine fM (J:=vo K q) (n:=(lL (i+1) kk).length) (λj H3=>au H H3/\LI H3 p (ms.map λ(m:Nat)=>(m:Int))/\LI H3 q (A8 (i+1) kk)/\LI H3 D (((lL (i+1) kk).take j).map λb=>(FV ms (i+1) b:Int)))
    ⟨(sm.trans s2).upd_new hD0,by show upd _ _ _ _=_;rw[ah npD];exact s2 _ _ hl,by show upd _ _ _ _=_;rw[ah nqD];exact hl2,ac⟩ (λH3 h=>⟨_,aR.of h.2.2.1,by rw[length_map,ech,length_map];exact Nat.le_refl _⟩)
    (λj H3 hj h=>⟨_,.int ((i+1-2^(lL (i+1) kk)[j]:Nat):Int),aR.of h.2.2.1,by rw[getElem?_map,ech,getElem?_map,List.getElem?_eq_getElem hj];rfl⟩) ?_ ?_
   .rintro j H3 y H4 hj ⟨s3,hl3,hq3,hd3⟩ ⟨e,hy⟩;subst e;obtain⟨r,hr1,rfl⟩:=bb (hy _ (aR.of hq3));rw[ech]at hr1;rw[getElem?_map]at hr1;obtain⟨b,hb1,hb2⟩:=map_eq_some_iff.mp hr1;subst hb2;have hbt:=(j7 hck).mp (mem_of_getElem? hb1);walk_at"rx";refine⟨rfl,?_⟩;walk_at"rx";refine bw (aR.of hl3) (fg (j:=i+1-2^b) (z:=(FV ms (i+1) b:Int)) (by rw[getElem?_map,Ba hm hbt];rfl)) ?_;refine⟨_,hd3,?_,s3.upd_new hD0,by show upd _ _ _ _=_;rw[ah npD];exact hl3,by show upd _ _ _ _=_;rw[ah nqD];exact hq3,?_⟩
    .rw[length_map,length_map,length_take,sizeLine_eq];have:(lL (i+1) kk).length<=kk:=le_trans (length_filter_le _ _) (by rw[length_range];exact Nat.le_refl _);omega
    .show upd _ _ _ _=_;rw[ac,aT hb1,map_append,map_append];rfl
   .rintro H3 ⟨s3,hl3,hq3,hd3⟩;rw[take_length]at hd3;refine⟨D,_,rfl,aR.of hd3,by rw[length_map];exact yU hck (by omega),λM hM1 hM2=>?_⟩;obtain⟨m,rfl,hmax⟩:=yS hm hck' (lL (i+1) kk) (λb=>j7 hck) (FV ms (i+1)) (λb hb=>Ba hm ((j7 hck).mp hb)) hM1 hM2;have hsv:(eY as)[i+1]?=some (Pc.sm as (testBit (i+1))):=sv (i+1) hcn;walk_at"rx";refine bw (s3.seq ha) (fg (j:=i+1) hsv) ?_;walk_at"rx";have hml:(List.map V.int (ms.map λ(m:Nat)=>(m:Int))).length<sizeLine:=by rw[length_map,length_map,sizeLine_eq];omega
    refine aY (λh1=>?_) (λh1=>?_)
    .rw[if_pos h1]at hmax;walk_at"rx";refine fQ hl3 hml ?_;refine⟨_,_,_,ms++[m+1],rfl,s3.upd_new hp,?_,rf hm hmax⟩;show upd _ _ _ _=_;rw[ac,map_append,map_append];rfl
    .rw[if_neg h1]at hmax;walk_at"rx";refine fQ hl3 hml ?_;refine⟨_,_,_,ms++[m],rfl,s3.upd_new hp,?_,rf hm hmax⟩;show upd _ _ _ _=_;rw[ac,map_append,map_append];rfl
  .rintro σ H' ⟨z2,z3,z4,ms,rfl,sm,hl,hm⟩;have e:((n:Int)-1).toNat+1=n:=by omega
   rw[e]at hm;walk_at"rx";exact k H' p ms sm hp hl hm
end Pc
namespace L2
open PyProof.Rows
def Bb (N:List Str)(sc scope:Scope)(x:Str)(j:Nat):Bool:=decide (scope.kind = .function)&&(!scope.isCoroutine&&(!scope.isGenerator&&(decide (∀y∈scope.names,y.2≠.cell)&&(decide (∀y∈scope.names,scope.names.lookup y.1=some y.2)&&(decide (N[j]?=some x)&&(decide (scope.names.lookup x=some .local) && (decide (∀y∈scope.names,y.2 = .local->y.1=x)&&decide (∀y∈scope.names,y.2 = .free->sc.names.lookup y.1=some .cell\/sc.names.lookup y.1=some .free))))))))
theorem EG {N:List Str}{sc scope:Scope}{x:Str}{j:Nat}(h:Bb N sc scope x j=true):pf N sc scope x j:=by unfold Bb at h;simp only[and_eq_true,decide_eq_true_eq,Bool.not_eq_true']at h;exact⟨h.1,h.2.1,h.2.2.1,h.2.2.2.1,h.2.2.2.2.1,h.2.2.2.2.2.1,h.2.2.2.2.2.2.1,h.2.2.2.2.2.2.2.1,h.2.2.2.2.2.2.2.2⟩
theorem fX.okC {P:Program}{w:World}{K:PySem.W.Frag}{mg:Str->Option Value}{base:Heap}{x qual:Str}{st:Stmt}{f:Addr}{fd:FuncData}{N ps:List Str}{k:Nat}{sp:Sp}(F:fX K x qual st f fd)(S:ap N ps (ak st))(len:∀vs H Q E,sp vs H Q E->vs.length=ps.length)
  (hbody:∀(cdv:Value),fd.code=cdv->∀(A:Around) (outer:List Env) (s:Shared) (H:Hp) (vs:List V) (Q:VK) (E:XK),dk k (A.deeper (envOfC qual (ak st) s.heap.objs.size f cdv))->sp vs H Q E-> ∃t,wM (ny bO P w K mg base N qual (ak st) f cdv A outer s H E).nox (cU st) t/\t { nx:=λ_ H'=>Q .non H',rt:=Q } (start N vs) H):aG P w K mg base bO (k+1) f fd ps sp:=by
 obtain⟨oc,od,kV,doc,pm,an,cdv,ct,osl,rfl,lk,hcd⟩:=F.ex;refine Dq lk hcd S len λA outer s H vs Q E hr hsp=>?_;obtain⟨t,h,q⟩:=hbody cdv rfl A outer s H vs Q E hr hsp;exact⟨t,h.nox,q⟩
theorem EH {K:PySem.W.Frag}{qual:Str}{lp:Pos}{P:Addr}{j:Nat}{ta:TA}{tb:TE}{σ:St}{H:Hp}{Q:VK}(h:ta σ H λvs H1=>∃(a:Addr) (ns:List Int) (key:Int->List Int),vs=[.ref a]/\aR K H1 a (ns.map V.int)/\0<ns.length/\dY qual lp P H1/\ (∀v∈ns,∀H2,bW P H1 H2->tb (σ.set j (some (.int v))) H2 λy H3=>au H2 H3/\∃kb,y = .ref kb/\kC H3 kb (key v))/\ ∀m∈ns,(∀y∈ns,HT.lexLt (key y) (key m)=false)->∀H',bW P H1 H'->dY qual lp P H'->Q (.int m) H'):A2 K qual lp P j ta tb σ H Q:=h
end L2
namespace Pc
open L2
theorem xG:∀(m:Nat) (G:Nat->Bool),∃g,g<2^m/\∀i,testBit g i=(decide (i<m)&&G i)
 |0,G=>⟨0,by decide,λi=>by simp⟩
 |m+1,G=>by
  obtain⟨g,g1,g2⟩:=xG m G;have lt:g<2^(m+1):=lt_of_lt_of_le g1 (Nat.pow_le_pow_right (by decide) (le_succ m));cases e:G m with
  |true=>
   refine⟨g ||| 2^m,Nat.or_lt_two_pow lt (Nat.pow_lt_pow_right (by decide) (lt_succ_self m)),λi=>?_⟩;rw[Nat.testBit_or,g2,oy];show(decide (i<m)&&G i||i==m)=_;by_cases h:i=m
   .subst h;simp[e]
   .have h1:(i==m)=false:=beq_eq_false_iff_ne.mpr h;rw[h1,Bool.or_false]
    congr 1
    exact decide_eq_decide.mpr (by omega)
  |false=>
   refine⟨g,lt,λi=>?_⟩;rw[g2];by_cases h:i=m
   .subst h;simp[e]
   .congr 1
    exact decide_eq_decide.mpr (by omega)
def jf (L:fO)(ms:List Nat)(left lo c:Nat):Bool:=(decide (c &&& left=c)&&!decide (c &&& lo=0))&&(decide (sm (bV L) (testBit c)=0)&&decide ((ms[left-c]?).getD 0+1=(ms[left]?).getD 0))
theorem Bc {L:fO}{ms:List Nat}{left c j:Nat}(hm:ig (bV L) ms (2^L.length))(hl:left<2^L.length)(hc:c<=left):jf L ms left (2^j) c=true↔rF L (testBit left) j c:=by
 unfold jf;simp only[and_eq_true,decide_eq_true_eq,Bool.not_eq_true',decide_eq_false_iff_not];obtain⟨m1,e1,x1⟩:=hm.2 (left-c) (by omega);obtain⟨m2,e2,x2⟩:=hm.2 left hl;rw[e1,e2];show(c &&& left=c/\¬c &&& 2^j=0)/\sm (bV L) (testBit c)=0/\m1+1=m2↔_;constructor
 .rintro⟨⟨h1,h2⟩,h3,h4⟩;have hs:=wK.mp h1;refine⟨hs,(rG c j).mp h2,h3,m1,?_,by rw[h4];exact x2⟩;rw[gK hs]at x1;exact x1
 .rintro⟨hs,h2,h3,n,h4,h5⟩;refine⟨⟨wK.mpr hs,(rG c j).mpr h2⟩,h3,?_⟩;rw[gK hs]at x1;rw[x1.uniq h4,x2.uniq h5]
theorem CV {L:fO}{ms:List Nat}{left j:Nat}(hm:ig (bV L) ms (2^L.length))(hl:left<2^L.length)(hj:testBit left j=true)(h0:sm (bV L) (testBit left)=0):∃c,c<=left/\rF L (testBit left) j c:=by
 have lv:(bV L).length=L.length:=length_map _;have jl:j<(bV L).length:=by rw[lv];exact uW hj hl
 obtain⟨m2,e2,x2⟩:=hm.2 left hl;cases m2 with
 |zero=>
  have:=x2.2 1 ⟨testBit left,λ_ h=>h,⟨j,jl,hj⟩,h0,trivial⟩;omega
 |succ n=>
  obtain⟨G,g1,g2,g3,g4⟩:=lV.at_ h0 jl hj x2.1;obtain⟨g,gl,gb⟩:=xG L.length G;have eg:testBit g=G:=by
   funext i;rw[gb];cases e:G i with
   |false=>exact Bool.and_false _
   |true=>rw[decide_eq_true (uW (g1 i e) hl)];rfl
  have hs:fV (testBit g) (testBit left):=by rw[eg];exact g1
  refine⟨g,wJ hs,hs,by rw[eg];exact g2,by rw[eg];exact g3,n,⟨by rw[eg];exact g4,λk hk=>?_⟩,x2⟩;have:=x2.2 (k+1) ⟨testBit g,hs,⟨j,jl,by rw[eg];exact g2⟩,by rw[eg];exact g3,hk⟩;omega
theorem CW {left:Nat}(h:left≠0):∃j,testBit left j=true/\(∀i,i<j->testBit left i=false)/\Builtin.bitAnd (left:Int) (-(left:Int))=((2^j:Nat):Int)/\2^j<=left:=by
 obtain⟨j,j1,j2,j3,j4⟩:=vz (left+1) left (lt_succ_self _) h;refine⟨j,j1,j2,?_,iB j1⟩;rw[PyProof.Rows.bitAnd_pn (Int.natCast_nonneg _) (by omega),<- j3];have e:(Builtin.bitNot (-(left:Int))).toNat=left-1:=by unfold Builtin.bitNot;omega
 rw[e];show(left:Int)-((left &&& (left-1):Nat):Int)=_;generalize left &&& (left-1)=x at *;omega
def BM (L:fO)(ms:List Nat)(left lo i:Nat):List Nat:=((List.range i).map λt=>lo+t).filter λc=>jf L ms left lo c
theorem Bd (L:fO)(ms:List Nat)(left lo i:Nat):BM L ms left lo (i+1)=BM L ms left lo i++if jf L ms left lo (lo+i)=true then[lo+i]else[]:=by
 unfold BM;rw[List.range_succ,map_append,filter_append]
 congr 1
 cases e:jf L ms left lo (lo+i)<;>simp[e]
theorem CY {L:fO}{ms:List Nat}{left lo i c:Nat}:c∈BM L ms left lo i↔(lo<=c/\c<lo+i)/\jf L ms left lo c=true:=by
 unfold BM;rw[mem_filter,mem_map];constructor
 .rintro⟨⟨t,ht,rfl⟩,h⟩;have:=mem_range.mp ht;exact⟨by omega,h⟩
 .rintro⟨h1,h2⟩;exact⟨⟨c-lo,mem_range.mpr (by omega),by omega⟩,h2⟩
theorem CZ (L:fO)(ms:List Nat)(left lo i:Nat):(BM L ms left lo i).length<=i:=by unfold BM;exact le_trans (length_filter_le _ _) (by rw[length_map,length_range];exact Nat.le_refl _)
def ki (L:fO):List Int:=L.map λx=>(x.1:Int)
def FW:Str:=("first_choice":Str) ++ ".<locals>." ++ "<lambda>"
def FX:Pos:=⟨224,26,224,55⟩
structure uX (mg:Str->Option Value)(base:Heap)(fdt:Fn->FuncData)(c P:Addr):Prop where
 code:(fdt .first_choice).code = .ref c
 hd:CodeHd base c P
 blt:base.BuiltinsAt mg P
abbrev fx (P:Addr)(H:Hp):Prop:=dY FW FX P H
inductive C0 (K:PySem.W.Frag)(tp:Addr)(vs:List V)(H:Hp)(Q:VK)(E:XK):Prop
 |mk (left:Nat)(ha sa ma:Addr)(L:fO)(ms:List Nat)(_:vs=[.int left,.ref ha,.ref sa,.ref ma])(_:aR K H ha ((ki L).map V.int))(_:aR K H sa ((eY (bV L)).map V.int))(_:aR K H ma ((ms.map λ(m:Nat)=>(m:Int)).map V.int))(_:ig (bV L) ms (2^L.length))(_:L.length<=10)(_:left≠0)(_:left<2^L.length)(_:sm (bV L) (testBit left)=0)(_:fx tp H)(_:∀(c j:Nat) (H':Hp),bW tp H H'->fx tp H'->testBit left j=true->(∀i,i<j->testBit left i=false)->c<=left->rF L (testBit left) j c->(∀g,g<=left->rF L (testBit left) j g->HT.lexLt (we g (ki L)) (we c (ki L))=false)->Q (.int c) H')
theorem Be (T:Tx K mg ad fdt)(TF:uX mg base fdt tc tp):aG P w K mg base bO 5 (ad .first_choice) (fdt .first_choice) ["left","houses","sums","most"] (C0 K tp):=by
 have G_rank:=CT (P:=P) (w:=w) (base:=base) T;refine T.f_first_choice.fn.okC cK (λvs H Q E h=>?_) (λcdv ecd A outer s H vs Q E hr h=>?_)
 .obtain⟨_,_,_,_,_,_,rfl,_⟩:=h
  rfl
 .obtain⟨left,ha,sa,ma,L,ms,rfl,hha,hsa,hma,hm,hL,hl0,hl,h0,tab,k⟩:=h;have hcode:cdv = .ref tc:=ecd.symm.trans TF.code;subst hcode;refine⟨_,(ae (aq (i:=4) cK.nd rfl (Or.inl rfl) (aL oH (pv 0) (Dm zG (pv 0)))) (ae (aq (i:=5) cK.nd rfl (Or.inl rfl) (aw af)) (ae (ci PassesOwn.never rfl (lZ rfl T.n_range (ab (pv 4) (ab (aL cD (pv 0) al) af))) (aQ (i:=6) cK.nd rfl (Or.inl rfl)) (ae (aq (i:=7) cK.nd rfl (Or.inl rfl) (vB (gL dH (aL oH (pv 6) (pv 0)) (pv 6) (aB _)) (vA (gL jt (aL oH (pv 6) (pv 4)) al (aB _))))) (ai (bg (PW.pt (eC (d4 (pv 7)) (eC (ay dH (bf aJ (pv 2) (pv 6) (λ_ _=>rfl)) al (aB _)) (dQ (ay dH (aL cD (bf aJ (pv 3) (aL d5 (pv 0) (pv 6)) (λ_ _=>rfl)) al) (bf aJ (pv 3) (pv 0) (λ_ _=>rfl)) (aB _)))))) (ai (aV (dz PySem.F.plainAttrs_list PySem.F.slot_list_append PySem.F.type_list_append bZ (pv 5) (ab (pv 6) af)))) aE)))) (ai (ao (CM (k:=3) (c:=tc) (P:=tp) rfl cK.nd hr (by rfl) T.n_min (ab (pv 5) af) (EG (x := "one") (j:=8) rfl) rfl TF.hd TF.blt (λ_ _ _ _=>rfl) (λs H L q c'=>bG T.f_rank G_rank (hr.in1.deeper _) (ab (pv 8) (ab (pv 1) af))) rfl)))))),?_⟩;obtain⟨j,j1,j2,j3,j4⟩:=CW hl0;obtain⟨sl,sv⟩:=nI (bV L);have lv:(bV L).length=L.length:=length_map _;rw[lv]at sl sv;have p10:=uU hL;walk_at"prep";walk_at"rx";refine aD (by decide) (λp hp=>?_);have s0:au H (upd H p (.lst [])):=(au.refl H).upd_new hp;walk_at"rx";rw[j3];generalize hlo:2^j=lo at *;refine⟨(lo:Int),(left:Int)+1,rfl,⟨by omega,by omega,by omega,by omega⟩,?_⟩;refine qt (lo:=(lo:Int)) (n:=((left:Int)+1-(lo:Int)).toNat) (λi σ H'=>∃(z6 z7:Option V),σ=[some (.int left),some (.ref ha),some (.ref sa),some (.ref ma),some (.int (lo:Int)),some (.ref p),z6,z7,none]/\au H H'/\LI H' p ((BM L ms left lo i).map λ(m:Nat)=>(m:Int)))
   ⟨none,none,rfl,s0,ac⟩ ?_ ?_
  .rintro i σ H' hi ⟨z6,z7,rfl,sm',hl'⟩;have ec:(lo:Int)+(i:Int)=((lo+i:Nat):Int):=by omega
   rw[ec];have hc:lo+i<=left:=by omega
   generalize hci:lo+i=c at *;have hsv:(eY (bV L))[c]?=some (Pc.sm (bV L) (testBit c)):=sv c (by omega);obtain⟨m1,e1,_⟩:=hm.2 (left-c) (by omega);obtain⟨m2,e2,_⟩:=hm.2 left hl;have fs:=Bd L ms left lo i;rw[hci]at fs;have cb:jf L ms left lo c=((decide (c &&& left=c)&&!decide (c &&& lo=0))&&(decide (Pc.sm (bV L) (testBit c)=0)&&decide (m1+1=m2))):=by unfold jf;rw[e1,e2];rfl
   have hA:Builtin.bitAnd (c:Int) (left:Int)=(c:Int)↔c &&& left=c:=by rw[sL];generalize c &&& left=x;omega
   have hB:Builtin.bitAnd (c:Int) (lo:Int)=0↔c &&& lo=0:=by rw[sL];generalize c &&& lo=x;omega
   have no:jf L ms left lo c=false->LI H' p ((BM L ms left lo (i+1)).map λ(m:Nat)=>(m:Int)):=λe=>by rw[fs,if_neg (by rw[e];decide),append_nil];exact hl'
   walk_at"rx";refine aY (λh1=>?_) (λh1=>?_)
   .have a1:=hA.mp h1;walk_at"rx";refine dv (λh2=>?_) (λh2=>?_)
    .have b1:¬c &&& lo=0:=λq=>h2 (hB.mpr q);walk_at"rx";refine bw (sm'.seq hsa) (fg (j:=c) hsv) ?_;walk_at"rx";refine aY (λh3=>?_) (λh3=>?_)
     .walk_at"rx";have elc:(left:Int)-(c:Int)=((left-c:Nat):Int):=by omega
      rw[elc];refine bw (sm'.seq hma) (fg (j:=left-c) (z:=(m1:Int)) (by rw[getElem?_map,e1];rfl)) ?_;walk_at"rx";refine bw (sm'.seq hma) (fg (j:=left) (z:=(m2:Int)) (by rw[getElem?_map,e2];rfl)) ?_;walk_at"rx";refine aY (λh4=>?_) (λh4=>?_)
      .walk_at"rx";refine fQ hl' (by rw[length_map,length_map,sizeLine_eq];have:=CZ L ms left lo i;omega) ?_;have ct:jf L ms left lo c=true:=by rw[cb,decide_eq_true a1,decide_eq_false b1,decide_eq_true h3,decide_eq_true (show m1+1=m2 by omega)];rfl
       refine⟨_,_,rfl,sm'.upd_new hp,?_⟩;show upd _ _ _ _=_;rw[ac,fs,if_pos ct,map_append,map_append];rfl
      .walk_at"rx";refine⟨_,_,rfl,sm',no ?_⟩;rw[cb,decide_eq_false (show¬m1+1=m2 by omega)];simp
     .walk_at"rx";refine⟨_,_,rfl,sm',no ?_⟩;rw[cb,decide_eq_false h3];simp
    .walk_at"rx";refine⟨_,_,rfl,sm',no ?_⟩;rw[cb,decide_eq_true (hB.mp h2)];simp
   .walk_at"rx";refine⟨_,_,rfl,sm',no ?_⟩;rw[cb,decide_eq_false (λq=>h1 (hA.mpr q))];simp
  .rintro σ H' ⟨z6,z7,rfl,sm',hl'⟩;have en:lo+((left:Int)+1-(lo:Int)).toNat=left+1:=by omega
   have memf:∀{c:Nat},c∈BM L ms left lo ((left:Int)+1-(lo:Int)).toNat↔(lo<=c/\c<=left)/\jf L ms left lo c=true:=λ{c}=>by rw[CY,en];exact⟨λh=>⟨⟨h.1.1,by omega⟩,h.2⟩,λh=>⟨⟨h.1.1,by omega⟩,h.2⟩⟩
   have toC:∀{c:Nat},c<=left->(jf L ms left lo c=true↔rF L (testBit left) j c):=λ{c} h=>by rw[<- hlo];exact Bc hm hl h
   have lole:∀{c:Nat},rF L (testBit left) j c->lo<=c:=λ{c} h=>by rw[<- hlo];exact iB h.has
   obtain⟨c0,hc0,cc0⟩:=CV hm hl j1 h0;have tab':=tab.mono sm';obtain⟨ps,htb⟩:=tab'.there;walk_at"rx";show A2 K FW FX tp 8 (gq (fK 5) jk) (tF (A9 K) (gq (fK 8) (gq (fK 1) jk))) _ _ _;refine EH ?_;walk_at"rx";refine⟨p,_,λv=>we v.toNat (ki L),rfl,aR.of hl',?_,tab',λv hv H2 sb=>?_,λm hm' hmin H3 sb tb=>?_⟩
   .rw[length_map];exact List.length_pos_of_mem (memf.mpr ⟨⟨lole cc0,hc0⟩,(toC hc0).mpr cc0⟩)
   .obtain⟨c,hcm,rfl⟩:=mem_map.mp hv;walk_at"rx";refine⟨c,ha,ki L,rfl,aR.b sb htb (sm'.seq hha),by unfold ki;rw[length_map];exact hL,λH4 kp s4 hk4=>?_⟩;exact⟨s4,kp,rfl,hk4⟩
   .obtain⟨c,hcm,rfl⟩:=mem_map.mp hm';have hc:=memf.mp hcm;refine k c j H3 (λb u q nb=>sb b u (sm' b u q) nb) tb j1 j2 hc.1.2 ((toC hc.1.2).mp hc.2) λg hg cg=>?_;exact hmin _ (mem_map.mpr ⟨g,memf.mpr ⟨⟨lole cg,hg⟩,(toC hg).mpr cg⟩,rfl⟩)
end Pc
namespace L2
open PyProof.Rows
theorem dq.f {H:Hp}{a:Addr}{o:Obj}{kvs:List (cT×V)}{k:cT}(e:H a=some (.frz o (.dK kvs))):dq H a (kV k) (cS kvs k):=.inl ⟨kvs,k,.inr ⟨o,e⟩,rfl,rfl⟩
theorem Bf {t:TS}{D:jj}{σ:St}{H:Hp}{d:Addr}{kvs:List (cT×V)}(hd:H d=some (.dK kvs))
  (h:∀od,t ⟨λσ' H'=>H' d=some (.frz od (.dK kvs))/\D.nx σ' (upd H' d (.dK kvs)),λv H'=>H' d=some (.frz od (.dK kvs))/\D.rt v (upd H' d (.dK kvs)),λσ' H'=>H' d=some (.frz od (.dK kvs))/\D.bk σ' (upd H' d (.dK kvs)),λσ' H'=>H' d=some (.frz od (.dK kvs))/\D.ct σ' (upd H' d (.dK kvs))⟩ σ (upd H d (.frz od (.dK kvs)))):Dv t D σ H:=⟨d,.dK kvs,hd,trivial,h⟩
theorem xH {td:TE}{σ:St}{H:Hp}{R:It->Hp->Prop}(h:td σ H λx H1=>∃d o,x = .ref d/\((∃kvs,H1 d=some (.frz o (.dK kvs))/\R (Fu d o kvs) H1)\/∃kvs,H1 d=some (.frz o (.dT kvs))/\R (Er d o kvs) H1)):Dy td σ H R:=h
end L2
namespace Pc
open L2
def zq (n:Nat)(f:Nat->Int):List Nat:=(Vbpoal.nums n).filter λh=>f h != 0
def lU (n:Nat)(f:Nat->Int):fO:=(zq n f).map λh=>(h,f h)
theorem Bg (n:Nat)(f:Nat->Int):(((Vbpoal.nums n).map λa=>(a,f a)).filter λx=>x.2 != 0)=lU n f:=by
 unfold lU zq;rw[List.filter_map]
 rfl
theorem wg (n:Nat):(Vbpoal.nums n).Nodup:=by unfold Vbpoal.nums;exact(List.nodup_range).map _ λa b h e=>h (by have:=e;omega)
theorem gB (n:Nat):(Vbpoal.nums n).length=n:=by unfold Vbpoal.nums;rw[length_map,length_range]
theorem xI (n:Nat)(f:Nat->Int):(lU n f).map (·.1)=zq n f:=by unfold lU;rw[map_map];exact map_id _
theorem yV (n:Nat)(f:Nat->Int):((lU n f).map (·.1)).Nodup:=by rw[xI];exact(wg n).filter _
theorem xJ (n:Nat)(f:Nat->Int):(lU n f).length<=n:=by unfold lU zq;rw[length_map];exact le_trans (length_filter_le _ _) (le_of_eq (gB n))
theorem xK (n:Nat)(f:Nat->Int):ki (lU n f)=(zq n f).map λ(h:Nat)=>(h:Int):=by unfold ki lU;rw[map_map];rfl
theorem uY:∀(a b:fO),Vbpoal.less a b=true->HT.lexLt (ki a) (ki b)=true
 |[],_,h=>by cases h
 |_::_,[],h=>by cases h
 |x::l,y::m,h=>by
  have h:(decide (x.1<y.1)||(x.1==y.1&&Vbpoal.less l m))=true:=h;show HT.lexLt ((x.1:Int)::ki l) ((y.1:Int)::ki m)=true;rw[HT.lexLt_cons];simp only[or_eq_true,and_eq_true,decide_eq_true_eq,beq_iff_eq]at h;rcases h with h|⟨h1,h2⟩
  .rw[if_neg (by omega)];exact decide_eq_true (by omega)
  .rw[if_pos (by omega)];exact uY l m h2
theorem Bh {L:fO}{g c:Nat}(h:ou (aF (testBit g) L) (aF (testBit c) L)):HT.lexLt (we g (ki L)) (we c (ki L))=true:=by
 unfold we;have e:∀x,aF (testBit x) (ki L)=ki (aF (testBit x) L):=λx=>og _ _ _;rw[e,e,HT.lexLt_cons];have el:∀x:fO,(ki x).length=x.length:=λx=>length_map _;rw[el,el];rcases h with h|⟨h1,h2⟩
 .rw[if_neg (by omega)];exact decide_eq_true (by omega)
 .rw[if_pos (by omega)];exact uY _ _ h2
theorem bW.none_of {P:Addr}{H H':Hp}{l:Addr}{u:HO}(s:bW P H H')(t:H' P=some u)(n:H' l=none):H l=none:=by
 cases e:H l with
 |none=>rfl
 |some v=>
  by_cases q:l=P
  .rw[q,t]at n;cases n
  .rw[s l v e q]at n;cases n
theorem LI.b {P a:Addr}{H H':Hp}{ps:Array Value}{xs:List V}(s:bW P H H')(t:H P=some (.tbl ps))(h:H a=some (.lst xs)):H' a=some (.lst xs):=s _ _ h (aP h t (by intro z;cases z))
def GJ:St->Nat
 |[_,_,_,_,_,_,some (.int b),_]=>b.toNat
 |_=>0
inductive EI (tp:Addr)(vs:List V)(H:Hp)(Q:VK)(E:XK):Prop
 |mk (pa:Addr)(n:Nat)(f:Nat->Int)(_:vs=[.ref pa])(_:H pa=some (.dK (bC n f)))(_:n<=10)(_:Vbpoal.isum (bV (lU n f))=0)(_:fx tp H)(_:∀(H':Hp) (p:Addr) (as:List Addr),bW tp H H'->fx tp H'->H p=none->H' p=some (.lst (as.map V.ref))->as.length<=10->(∀a∈as,H a=none)->Paired (LI H') as ((Vbpoal.parted ((lU n f).length+1) (lU n f)).map ki)->Q (.ref p) H')
theorem xL (T:Tx K mg ad fdt)(TF:uX mg base fdt tc tp):aG P w K mg base bO 6 (ad .part_into_groups) (fdt .part_into_groups) ["positions"] (EI tp):=by
 have G_sums_of_choices:=CQ (P:=P) (w:=w) (base:=base) T;have G_most_groups:=CU (P:=P) (w:=w) (base:=base) T;have G_members:=pk (P:=P) (w:=w) (base:=base) T;have G_first_choice:=Be (P:=P) (w:=w) T TF;refine T.f_part_into_groups.fn.ok aZ (λvs H Q E h=>?_) (λcdv A outer s H vs Q E hr h=>?_)
 .obtain⟨_,_,_,rfl,_⟩:=h
  rfl
 .obtain⟨pa,n,f,rfl,hpa,hn,hz,tab,k⟩:=h;have hu:=kq hr;refine⟨_,(ae (xa (lf (i:=2) (own:=[("house",1)]) rfl aZ.nd rfl rfl (rT rfl rfl rfl rfl) (xb (pv 0)) (dI rfl) (λs H C cl fp=>(aQ (i:=1) aZ.nd rfl (Or.inl rfl))) (λs H C cl fp=>jW (ay jt (dS hu (pv 0) (pv 1) (λ_ _=>rfl)) al (aB _))) (λs H C cl fp=>(pv 1)))) (ae (aq (i:=3) aZ.nd rfl (Or.inl rfl) (bG T.f_sums_of_choices G_sums_of_choices (hr.mono (by decide)) (ab (im (own:=[("house",1)]) rfl aZ.nd (bx (pv 2)) (dI rfl) (λs H C cl fp=>(aQ (i:=1) aZ.nd rfl (Or.inl rfl))) (λs H C cl fp=>eE) (λs H C cl fp=>(dS hu (pv 0) (pv 1) (λ_ _=>rfl)))) af))) (ae (aq (i:=4) aZ.nd rfl (Or.inl rfl) (bG T.f_most_groups G_most_groups (hr.mono (by decide)) (ab (pv 3) af))) (ae (aq (i:=5) aZ.nd rfl (Or.inl rfl) (aw af)) (ae (aq (i:=6) aZ.nd rfl (Or.inl rfl) (aL d5 (aI ax (by rfl) T.n_len boot_len (ab (pv 3) af)) al)) (ae (k6 PassesOwn.never (ay fP (pv 6) al (aB _)) (ae (aq (i:=7) aZ.nd rfl (Or.inl rfl) (bG T.f_first_choice G_first_choice (hr.mono (by decide)) (ab (pv 6) (ab (pv 2) (ab (pv 3) (ab (pv 4) af)))))) (ae (aV (dz PySem.F.plainAttrs_list PySem.F.slot_list_append PySem.F.type_list_append bZ (pv 5) (ab (bG T.f_members G_members (hr.mono (by decide)) (ab (pv 7) (ab (pv 2) af))) af))) (ai (aq (i:=6) aZ.nd rfl (Or.inl rfl) (aL d5 (pv 6) (pv 7))))))) (ai (ao (pv 5))))))))),?_⟩;walk_at"prep";have Ll:=xJ n f;have kl:(bC n f).length=n:=jN n f;have at_:∀{i:Nat} {h:Nat},(Vbpoal.nums n)[i]?=some h->(bC n f)[i]?=some (.inl (h:Int),.int (f h)):=λ{i h} e=>by unfold bC;rw[getElem?_map,e];rfl
  refine qI ?_;refine Bf hpa λod=>?_;refine qJ ?_;refine Ao ?_;refine xH ?_;walk_at"rx";refine⟨pa,od,rfl,.inl ⟨_,ac,λD hD=>?_⟩⟩;have npD:pa≠D:=λe=>by rw[<- e,ac]at hD;cases hD
  have hD0:H D=none:=by rw[ah (Ne.symm npD)]at hD;exact hD
  refine fM (J:=Fu pa od (bC n f)) (n:=n) (λj H3=>(∀b u,H b=some u->b≠pa->H3 b=some u)/\H3 pa=some (.frz od (.dK (bC n f)))/\LI H3 D ((((Vbpoal.nums n).take j).filter λh=>f h != 0).map λ(h:Nat)=>(h:Int)))
   ⟨λb u q nb=>by rw[ah (aj q hD0),ah nb];exact q,by rw[ah npD];exact ac,ac⟩ (λH3 h=>⟨h.2.1,by rw[kl];exact Nat.le_refl _⟩) (λj H3 hj h=>⟨h.2.1,by rw[kl];exact hj⟩) ?_ ?_
  .rintro j H3 y H4 hj ⟨k3,hp3,hd3⟩ ⟨e,ky,vy,hy,rfl⟩;subst e;have hjn:j<(Vbpoal.nums n).length:=by rw[gB];exact hj
   have hh:(Vbpoal.nums n)[j]?=some (Vbpoal.nums n)[j]:=List.getElem?_eq_getElem hjn;generalize (Vbpoal.nums n)[j]=h at hh;rw[at_ hh]at hy;cases hy;have hm:=gA.mp (mem_of_getElem? hh);have g1:dq H4 pa (.int (h:Int)) (some (.int (f h))):=by have q:dq H4 pa (V.int (h:Int)) (cS (bC n f) (.inl (h:Int))):=dq.f (k:=Sum.inl (h:Int)) hp3;rw[eU hm]at q;exact q
   have tk:((Vbpoal.nums n).take (j+1)).filter (λh=>f h != 0)=(((Vbpoal.nums n).take j).filter λh=>f h != 0)++if f h=0 then[]else[h]:=by
    rw[aT hh,filter_append]
    congr 1
    by_cases z:f h=0
    .simp[z]
    .simp[z]
   walk_at"rx";refine⟨rfl,?_⟩;walk_at"rx";refine⟨pa,_,rfl,g1,?_⟩;walk_at"rx";refine dv (λh1=>?_) (λh1=>?_)
   .walk_at"rx";refine⟨_,hd3,?_,λb u q nb=>by rw[ah (aj q hD0)];exact k3 b u q nb,by rw[ah npD];exact hp3,?_⟩
    .rw[length_map,length_map,sizeLine_eq];have:=length_filter_le (λh=>f h != 0) ((Vbpoal.nums n).take j);rw[length_take]at this;omega
    .show upd _ _ _ _=_;rw[ac,tk,if_neg h1,map_append,map_append];rfl
   .refine⟨k3,hp3,?_⟩;rw[tk,if_pos h1,append_nil];exact hd3
  .rintro H3 ⟨k3,hp3,hd3⟩;refine⟨hp3,?_⟩;rw[take_of_length_le (by rw[gB];exact Nat.le_refl _)]at hd3;have hd4:LI (upd H3 pa (.dK (bC n f))) D (ki (lU n f)):=by rw[xK];show upd _ _ _ _=_;rw[ah (Ne.symm npD)];exact hd3
   have s4:au H (upd H3 pa (.dK (bC n f))):=λb u q=>by
    by_cases z:b=pa
    .subst z;rw[ac,<- hpa];exact q
    .rw[ah z];exact k3 b u q z
   have hp4:upd H3 pa (.dK (bC n f)) pa=some (.dK (bC n f)):=ac;generalize upd H3 pa (.dK (bC n f))=H4 at *;clear hd3 hp3 k3 H3;generalize hLd:lU n f=L at *;have eV:bV L=(zq n f).map f:=by rw[<- hLd];show(lU n f).map (·.2)=_;unfold lU;rw[map_map];rfl
   have eN:ki L=(zq n f).map λ(h:Nat)=>(h:Int):=by rw[<- hLd,xK]
   have lo:(zq n f).length=L.length:=by rw[<- hLd];unfold lU;rw[length_map]
   have lv:(bV L).length=L.length:=length_map _;have nd:(L.map (·.1)).Nodup:=by rw[<- hLd];exact yV n f
   walk_at"rx";refine⟨D,rfl,⟨_,aR.of hd4⟩,λE1 hE1=>?_⟩;have hE0:H E1=none:=s4.none_of hE1;have npE:pa≠E1:=aj hp4 hE1;have nDE:D≠E1:=aj hd4 hE1;refine fM (J:=vo K D) (n:=(zq n f).length) (λj H5=>au H H5/\H5 pa=some (.dK (bC n f))/\LI H5 D (ki L)/\LI H5 E1 (((zq n f).take j).map f))
    ⟨s4.upd_new hE0,by rw[ah npE];exact hp4,by show upd _ _ _ _=_;rw[ah nDE];exact hd4,ac⟩ (λH5 h=>⟨_,aR.of h.2.2.1,by rw[length_map,eN,length_map];exact Nat.le_refl _⟩)
    (λj H5 hj h=>⟨_,.int (((zq n f)[j]:Nat):Int),aR.of h.2.2.1,by rw[getElem?_map,eN,getElem?_map,List.getElem?_eq_getElem hj];rfl⟩) ?_ ?_
   .rintro j H5 y H6 hj ⟨s5,hp5,hd5,he5⟩ ⟨e,hy⟩;subst e;obtain⟨r,hr1,rfl⟩:=bb (hy _ (aR.of hd5));rw[eN,getElem?_map]at hr1;obtain⟨h,hh1,hh2⟩:=map_eq_some_iff.mp hr1;subst hh2;have hm:=gA.mp (mem_filter.mp (mem_of_getElem? hh1)).1;have g1:dq H6 pa (.int (h:Int)) (some (.int (f h))):=by have q:dq H6 pa (V.int (h:Int)) (cS (bC n f) (.inl (h:Int))):=dq.k (k:=Sum.inl (h:Int)) hp5;rw[eU hm]at q;exact q
    walk_at"rx";refine⟨rfl,?_⟩;walk_at"rx";refine⟨pa,_,rfl,g1,?_⟩;refine⟨_,he5,?_,s5.upd_new hE0,by rw[ah npE];exact hp5,by show upd _ _ _ _=_;rw[ah nDE];exact hd5,?_⟩
    .rw[length_map,length_map,length_take,sizeLine_eq];omega
    .show upd _ _ _ _=_;rw[ac,aT hh1,map_append,map_append];rfl
   .rintro H5 ⟨s5,hp5,hd5,he5⟩;rw[take_length,<- eV]at he5;walk_at"rx";refine⟨E1,bV L,rfl,aR.of he5,by omega,λH6 sa s6 hsa0 hsa=>?_⟩;walk_at"rx";refine⟨sa,bV L,rfl,aR.of hsa,by omega,λH7 ma ms s7 hma0 hma hms=>?_⟩;rw[lv]at hms;have s57:=s6.trans s7;walk_at"rx";refine aD (by decide) (λgp hgp=>?_);have s8:au H7 (upd H7 gp (.lst [])):=(au.refl H7).upd_new hgp;have sH8:=s5.trans (s57.trans s8);walk_at"rx";obtain⟨sl,_⟩:=nI (bV L);rw[lv]at sl;refine⟨sa,_,rfl,.inl (aR.of (s8 _ _ (s7 _ _ hsa))),?_⟩;rw[length_map,sl];have pp:0<2^L.length:=two_pow_pos _;have p10:=uU (show L.length<=10 by omega);have hgp0:H gp=none:=(s5.trans s57).none_of hgp;have nDg:D≠gp:=aj (s57 _ _ hd5) hgp;have nsg:sa≠gp:=aj (s7 _ _ hsa) hgp;have nmg:ma≠gp:=aj hma hgp;have full:aF (testBit (2^L.length-1)) L=L:=qi L λi hi=>by rw[BO];exact decide_eq_true hi
    have e2:((2^L.length:Nat):Int)-1=((2^L.length-1:Nat):Int):=by generalize 2^L.length=x at *;omega
    have el:(((2:Nat)^L.length:Nat):Int)-1=((2^L.length-1:Nat):Int):=e2;walk_at"rx";rw[el];generalize hfull:2^L.length-1=left0 at *;refine tQ (λσ H'=>∃(left kk:Nat) (z1 z7:Option V) (as:List Addr) (done:List fO),σ=[some (.ref pa),z1,some (.ref D),some (.ref sa),some (.ref ma),some (.ref gp),some (.int (left:Int)),z7]/\bW tp H H'/\fx tp H'/\LI H' D (ki L)/\LI H' sa (eY (bV L))/\LI H' ma (ms.map λ(m:Nat)=>(m:Int))/\ H' gp=some (.lst (as.map V.ref))/\(∀a∈as,a≠gp/\H a=none)/\Paired (LI H') as (done.map ki)/\as.length+(aF (testBit left) L).length<=L.length/\left<2^L.length/\Pc.sm (bV L) (testBit left)=0/\(aF (testBit left) L).length<kk/\ Vbpoal.parted (L.length+1) L=done++Vbpoal.parted kk (aF (testBit left) L)) (λσ H'=>GJ σ)
     ⟨left0,L.length+1,_,_,[],[],rfl,bW.of sH8,tab.mono sH8,s8 _ _ (s57 _ _ hd5),s8 _ _ (s7 _ _ hsa),s8 _ _ hma,ac,(λ_ h=>by cases h),.nil,by rw[full];simp,by omega,?_,by rw[full];exact lt_succ_self _,by rw[full];rfl⟩ ?_ ?_
    .rw[rD,full];exact hz
    .rintro σ H' ⟨left,kk,z1,z7,as,done,rfl,sb,tb,hD',hsa',hma',hgp',nas,hpr,hlen,hll,hz0,hkk,heq⟩;obtain⟨ps,htb⟩:=tb.there;walk_at"rx";refine aY (λh1=>?_) (λh1=>?_)
     .have hl0:left≠0:=by omega
      walk_at"rx";refine⟨left,D,sa,ma,L,ms,rfl,aR.of hD',aR.of hsa',aR.of hma',hms,by omega,hl0,hll,hz0,tb,λc j H2 sb2 tb2 j1 j2 hc cc hmin=>?_⟩;have D2:LI H2 D (ki L):=LI.b sb2 htb hD';have sa2:LI H2 sa (eY (bV L)):=LI.b sb2 htb hsa';have ma2:LI H2 ma (ms.map λ(m:Nat)=>(m:Int)):=LI.b sb2 htb hma';have gp2:H2 gp=some (.lst (as.map V.ref)):=LI.b sb2 htb hgp';have pr2:Paired (LI H2) as (done.map ki):=aK hpr λa _ x h=>LI.b sb2 htb h;have c0:0<c:=lt_of_lt_of_le (two_pow_pos j) (iB cc.has);have jl:j<L.length:=uW j1 hll;have hx:L[j]?=some L[j]:=List.getElem?_eq_getElem jl;have hsub:testBit (left-c)=sd (testBit left) (testBit c):=gK cc.sub;have lt:=jp hx cc.sub cc.has;cases kk with
      |zero=>omega
      |succ kk=>
       have gs:=vw nd hx j1 j2 hz0 hkk cc λg hg cg rk=>by have:=hmin g (wJ cg.sub) cg;rw[Bh rk]at this;cases this
       rw[gs]at heq;walk_at"rx";refine⟨c,D,ki L,rfl,aR.of D2,by rw[eN,length_map];omega,λH3 a s3 ha0 ha=>?_⟩;have gp3:=s3 _ _ gp2;have ag:a≠gp:=λe=>by rw[e,gp2]at ha0;cases ha0
       have eI:(left:Int)-(c:Int)=((left-c:Nat):Int):=by omega
       walk_at"rx";refine fQ gp3 (by rw[length_map,sizeLine_eq];omega) ?_;walk_at"rx";rw[eI];have s4':∀b u,H3 b=some u->b≠gp->upd H3 gp (.lst (as.map V.ref++[V.ref a])) b=some u:=λb u q nb=>by rw[ah nb];exact q
       have ntg:tp≠gp:=λe=>by rw[e,hgp']at htb;cases htb
       obtain⟨ps2,htb2⟩:=tb2.there;refine⟨⟨left-c,kk,_,_,as++[a],done++[aF (testBit c) L],rfl,λb u q nb=>?_,?_,s4' _ _ (s3 _ _ D2) nDg,s4' _ _ (s3 _ _ sa2) nsg,s4' _ _ (s3 _ _ ma2) nmg,by rw[ac,map_append];rfl,λb hb=>?_,?_,?_,by omega,?_,?_,?_⟩,?_⟩
       .exact s4' _ _ (s3 _ _ (sb2 _ _ (sb _ _ q nb) nb)) (aj q hgp0)
       .rcases tb2.mono s3 with e|⟨c',e,o,vs,t,e1,e2⟩
        .exact .inl (s4' _ _ e ntg)
        .exact .inr ⟨c',s4' _ _ e ntg,o,vs,t,s4' _ _ e1 (aP e1 gp3 (by intro z;cases z)),e2⟩
       .rcases mem_append.mp hb with hb|hb
        .exact nas b hb
        .rw[mem_singleton.mp hb];exact⟨ag,bW.none_of (sb.trans sb2) (tb2.there.choose_spec) ha0⟩
       .rw[map_append];refine fh (aK pr2 λb hb x h=>s4' _ _ (s3 _ _ h) (nas b hb).1) (s4' _ _ ?_ ag);have e:ki (aF (testBit c) L)=aF (testBit c) (ki L):=(og _ _ _).symm;rw[e];exact ha
       .rw[hsub,length_append];show as.length+1+_<=_;omega
       .have sp:=fA (bV L) cc.sub;have:=cc.zero;rw[hsub];omega
       .rw[hsub];omega
       .rw[hsub,heq,List.append_assoc];rfl
       .show((left-c:Nat):Int).toNat<((left:Nat):Int).toNat;omega
     .have e0:left=0:=by omega
      subst e0;walk_at"rx";have en:aF (testBit 0) L=[]:=by
       cases e:aF (testBit 0) L with
       |nil=>rfl
       |cons x r=>
        obtain⟨j,_,j2,_⟩:=jT L e;rw[Nat.zero_testBit]at j2;cases j2
      have ep:Vbpoal.parted kk ([]:fO)=[]:=by cases kk<;>rfl
      rw[en,ep,append_nil]at heq;rw[heq]at k;exact k H' gp as sb tb hgp0 hgp' (by omega) (λa ha=>(nas a ha).2) hpr
    .intro σ H Q Q' hQ h;obtain⟨v,hv,i,j,e1,e2,b,e3,q⟩:=h;exact⟨v,hv,i,j,e1,e2,b,e3,hQ _ _ q⟩
abbrev lM (l:List Nat):List Int:=l.map λ(h:Nat)=>(h:Int)
theorem wj (l:List Nat)(x:Nat):lM (l++[x])=lM l++[(x:Int)]:=map_append
theorem xM {hs:List Nat}{g:Nat->Int}:((hs.map λh=>!decide (g h=0)).any id)=true↔∃h∈hs,g h≠0:=by
 rw[List.any_map,List.any_eq_true];constructor
 .rintro⟨h,h1,h2⟩;exact⟨h,h1,by simpa using h2⟩
 .rintro⟨h,h1,h2⟩;exact⟨h,h1,by simpa using h2⟩
theorem Bj {tt:TT}{Q:VK}{H:Hp}{ga:Addr}{hs:List Nat}{a1 a2 a3 a4 a5 a6 a7:Option V}(p:Nat->Bool)(hl:hs.length<=10)(hg:aR K H ga ((lM hs).map V.int))
  (ht:∀h∈hs,∀(H3:Hp) (QB:Bool->Hp->Prop),au H H3->QB (p h) H3->tt [some (.ref ga),a1,a2,a3,some (.int (h:Int)),a5,a6,a7] H3 QB)
  (h:∀(H':Hp) (D:Addr),au H H'->H D=none->LI H' D (lM (hs.filter p))->Q (.ref D) H'):E3 (wQ K (fK 0)) (km 4) tt (fK 4) [4] [some (.ref ga),a1,a2,a3,a4,a5,a6,a7] H Q:=by
 refine Ao ?_;walk_at"rx";refine⟨ga,rfl,⟨_,hg⟩,λD hD=>?_⟩;refine uv (J:=vo K ga) (n:=hs.length) (λj H3=>au H H3/\LI H3 D (lM ((hs.take j).filter p))) ⟨(au.refl H).upd_new hD,ac⟩ (λH3 q=>⟨_,q.1.seq hg,by rw[length_map,length_map];exact Nat.le_refl _⟩)
  (λj H3 hj q=>⟨_,.int (hs[j]:Int),q.1.seq hg,by rw[getElem?_map,getElem?_map,List.getElem?_eq_getElem hj];rfl⟩) ?_ ?_
 .rintro j H3 y H4 hj ⟨s3,hd3⟩ ⟨e,hy⟩;subst e;obtain⟨r,hr1,rfl⟩:=bb (hy _ (s3.seq hg));rw[getElem?_map]at hr1;obtain⟨x,hx1,hx2⟩:=map_eq_some_iff.mp hr1;subst hx2;walk_at"rx";refine⟨rfl,?_⟩;refine ht x (mem_of_getElem? hx1) H4 _ s3 ?_;have tk:(hs.take (j+1)).filter p=(hs.take j).filter p++if p x=true then[x]else[]:=by
   rw[aT hx1,filter_append]
   congr 1
   cases e:p x<;>simp[e]
  cases e:p x with
  |true=>
   rw[e,if_pos rfl]at tk;refine rZ ?_;walk_at"rx";refine⟨_,hd3,?_,s3.upd_new hD,?_⟩
   .rw[length_map,length_map,sizeLine_eq];have:=length_filter_le p (hs.take j);rw[length_take]at this;omega
   .show upd _ _ _ _=_;rw[ac,tk,wj,map_append];rfl
  |false=>
   rw[e,if_neg (by decide),append_nil]at tk;refine jz ⟨s3,?_⟩;rw[tk];exact hd3
 .rintro H3 ⟨s3,hd3⟩;rw[take_length]at hd3;exact h H3 D s3 hD hd3
theorem uZ {hs:List Nat}{p:Nat}{r:List Nat}{q:Nat->Bool}{m:Int}(hp:hs.Pairwise (·<·))(e:hs.filter q=p::r)(h1:m∈lM (hs.filter q))(h2:∀y∈lM (hs.filter q),m<=y):m=(p:Int):=by
 have pw:=hp.filter q;rw[e]at pw h1 h2;have le:m<=(p:Int):=h2 _ (mem_map.mpr ⟨p,mem_cons_self,rfl⟩);obtain⟨x,hx,rfl⟩:=mem_map.mp h1;rcases mem_cons.mp hx with z|z
 .rw[z]
 .have:=(List.pairwise_cons.mp pw).1 x z;omega
inductive EJ (K:PySem.W.Frag)(C:Addr)(vs:List V)(H:Hp)(Q:VK)(E:XK):Prop
 |mk (ga pa:Addr)(hs:List Nat)(n:Nat)(f:Nat->Int)(_:vs=[.ref ga,.ref pa])(_:aR K H ga ((lM hs).map V.int))(_:H pa=some (.dK (bC n f)))(_:n<=10)(_:hs.length<=10)(_:(∀h∈hs,1<=h/\h<=n))(_:hs.Pairwise (·<·))(_:Vbpoal.isum (hs.map f)=0)(_:∀(H':Hp) (p:Addr) (as:List Addr),au H H'->H p=none->H' p=some (.lst (as.map V.ref))->as.length<=10->Paired (fe C H') as (Vbpoal.paymentsOf (hs.map λh=>(h,f h)))->Q (.ref p) H')
theorem fe.same {C:Addr}{H H':Hp}{a:Addr}{p:Vbpoal.Payment}(e:au H H')(h:fe C H a p):fe C H' a p:=let ⟨d,q⟩:=h;⟨d,e _ _ q⟩
theorem C1 (T:Tx K mg ad fdt):aG P w K mg base bO 3 (ad .payments_within) (fdt .payments_within) ["group","positions"] (EJ K (ad .Payment)):=by
 have G_Payment___init__:=fN (P:=P) (w:=w) (base:=base) T;have G_shift_positions:=pj (P:=P) (w:=w) (base:=base) T;refine T.f_payments_within.fn.ok aX (λvs H Q E h=>?_) (λcdv A outer s H vs Q E hr h=>?_)
 .obtain⟨_,_,_,_,_,rfl,_⟩:=h
  rfl
 .obtain⟨ga,pa,hs,n,f,rfl,hg,hpa,hn,hl,hin,hpw,hz,k⟩:=h;have hu:=kq hr;refine⟨_,(ae (aq (i:=2) aX.nd rfl (Or.inr rfl) (qz v8 (by rfl) T.n_dict PyProof.Rows.boot_dict (ab (pv 1) af))) (ae (aq (i:=3) aX.nd rfl (Or.inl rfl) (aw af)) (ae (k6 PassesOwn.never (d4 (aI (Ek rfl) (by rfl) T.n_any PyProof.Rows.boot_any (ab (im (own:=[("house",4)]) rfl aX.nd (bx (pv 0)) (dI rfl) (λs H C cl fp=>(aQ (i:=4) aX.nd rfl (Or.inl rfl))) (λs H C cl fp=>eE) (λs H C cl fp=>(gL jt (dS hu (pv 2) (pv 4) (λ_ _=>rfl)) al (aB _)))) af))) (ae (aq (i:=5) aX.nd rfl (Or.inl rfl) (aI (zS rfl) (by rfl) T.n_min PyProof.Rows.boot_min (ab (im (own:=[("house",4)]) rfl aX.nd (bx (pv 0)) (dI rfl) (λs H C cl fp=>(aQ (i:=4) aX.nd rfl (Or.inl rfl))) (λs H C cl fp=>jW (ay k7 (dS hu (pv 2) (pv 4) (λ_ _=>rfl)) al (aB _))) (λs H C cl fp=>(pv 4))) af))) (ae (aq (i:=6) aX.nd rfl (Or.inl rfl) (aI (zS rfl) (by rfl) T.n_min PyProof.Rows.boot_min (ab (im (own:=[("house",4)]) rfl aX.nd (bx (pv 0)) (dI rfl) (λs H C cl fp=>(aQ (i:=4) aX.nd rfl (Or.inl rfl))) (λs H C cl fp=>jW (ay fP (dS hu (pv 2) (pv 4) (λ_ _=>rfl)) al (aB _))) (λs H C cl fp=>(pv 4))) af))) (ae (aq (i:=7) aX.nd rfl (Or.inl rfl) (aI (yc rfl) (by rfl) T.n_min PyProof.Rows.boot_min (ab (Dm zG (dS hu (pv 2) (pv 5) (λ_ _=>rfl))) (ab (dS hu (pv 2) (pv 6) (λ_ _=>rfl)) af)))) (ae (aV (dz PySem.F.plainAttrs_list PySem.F.slot_list_append PySem.F.type_list_append bZ (pv 3) (ab (mS T.c_Payment T.b_Payment G_Payment___init__ (hr.mono (by decide)) (ab (pv 5) (ab (pv 6) (ab (pv 7) af)))) af))) (ai (aV (bG T.f_shift_positions G_shift_positions (hr.mono (by decide)) (ab (pv 2) (ab (pv 5) (ab (pv 6) (ab (pv 7) af)))))))))))) (ai (ao (pv 3)))))),?_⟩;walk_at"prep";walk_at"rx";refine⟨pa,_,rfl,hpa,λld hld=>?_⟩;walk_at"rx";refine aD (by decide) (λpp hpp=>?_);have npl:pp≠ld:=λe=>by rw[e,ac]at hpp;cases hpp
  have hpp0:H pp=none:=by rw[ah npl]at hpp;exact hpp
  walk_at"rx";have dg:∀{H':Hp} {g:Nat->Int},H' ld=some (.dK (bC n g))->∀{h:Nat},1<=h/\h<=n->dq H' ld (.int (h:Int)) (some (.int (g h))):=λ{H' g} e {h} hh=>by have q:dq H' ld (V.int (h:Int)) (cS (bC n g) (.inl (h:Int))):=dq.k (k:=Sum.inl (h:Int)) e;rw[eU hh]at q;exact q
  have nd:hs.Nodup:=hpw.imp (λh=>ne_of_lt h);have pl0:=iH.begin nd hz;have dl0:=rJ f hs;refine⟨λm σ H'=>∃(z4 z5 z6 z7:Option V) (g:Nat->Int) (as:List Addr) (done ps:List Vbpoal.Payment),σ=[some (.ref ga),some (.ref pa),some (.ref ld),some (.ref pp),z4,z5,z6,z7]/\au H H'/\H' ld=some (.dK (bC n g))/\H' pp=some (.lst (as.map V.ref))/\Paired (fe (ad .Payment) H') as done/\iH hs g ps/\ Vbpoal.paymentsOf (hs.map λh=>(h,f h))=done++ps/\m=(jh g hs).length+(mM g hs).length/\as.length+m<=10,⟨_,none,none,none,none,f,[],[],_,rfl,((au.refl H).upd_new hld).upd_new hpp0,by rw[ah (Ne.symm npl)];exact ac,ac,.nil,pl0,rfl,rfl,by simp;omega⟩,?_⟩;rintro m σ H' ⟨z4,z5,z6,z7,g,as,done,ps,rfl,sm',hld',hpp',hpr,hpl,heq,hm,hal⟩;walk_at"rx";refine⟨ga,rfl,⟨_,sm'.seq hg⟩,λD hD=>?_⟩;refine fM (J:=vo K ga) (n:=hs.length) (λj H3=>au H' H3/\H3 D=some (.lst (((hs.take j).map λh=>!decide (g h=0)).map V.bl))) ⟨(au.refl H').upd_new hD,ac⟩ (λH3 q=>⟨_,q.1.seq (sm'.seq hg),by rw[length_map,length_map];exact Nat.le_refl _⟩)
   (λj H3 hj q=>⟨_,.int (hs[j]:Int),q.1.seq (sm'.seq hg),by rw[getElem?_map,getElem?_map,List.getElem?_eq_getElem hj];rfl⟩) ?_ ?_
  .rintro j H3 y H4 hj ⟨s3,hd3⟩ ⟨e,hy⟩;subst e;obtain⟨r,hr1,rfl⟩:=bb (hy _ (s3.seq (sm'.seq hg)));rw[getElem?_map]at hr1;obtain⟨x,hx1,hx2⟩:=map_eq_some_iff.mp hr1;subst hx2;walk_at"rx";refine⟨rfl,?_⟩;walk_at"rx";refine⟨ld,_,rfl,dg (s3 _ _ hld') (hin x (mem_of_getElem? hx1)),?_⟩;walk_at"rx";refine⟨_,hd3,?_,s3.upd_new hD,?_⟩
   .rw[length_map,length_map,length_take,sizeLine_eq];omega
   .rw[ac,aT hx1,map_append,map_append];rfl
  .rintro H3 ⟨s3,hd3⟩;rw[take_length]at hd3;refine⟨D,_,rfl,aR.of hd3,?_⟩;have smH:=sm'.trans s3;walk_at"rx";by_cases hnz:∃h∈hs,g h≠0
   .rw[xM.mpr hnz];refine rZ ⟨_,λ_ _ q=>q,?_⟩;obtain⟨p,q,a,b,r,r',ps',ed,ec,npq,pm,qm,fp,fq,hmin,eps,nxt⟩:=hpl.step hnz;have kd:=jq g hs;have kc:=tG g hs;rw[ed]at kd;rw[ec]at kc;have hld3:=s3 _ _ hld';have hpp3:=s3 _ _ hpp'
    repeat (with_reducible first|refine nU ?_|refine qI ?_|refine qJ ?_|refine Cr ?_|refine sf ?_|refine xn ?_)
    refine Bj (λh=>decide (g h<0)) hl (smH.seq hg) (λh hh H4 QB s4 q4=>?_) λH4 D1 s4 hD1 l4=>?_
    .walk_at"rx";refine⟨ld,_,rfl,dg (s4 _ _ hld3) (hin h hh),?_⟩;walk_at"rx";exact q4
    refine⟨D1,_,rfl,aR.of l4,by rw[length_map,<- kd];simp,λx hx1 hx2=>?_⟩;have ex:=uZ hpw kd.symm hx1 hx2;subst ex;have smH4:=smH.trans s4
    repeat (with_reducible first|refine nU ?_|refine qI ?_|refine qJ ?_|refine Cr ?_|refine sf ?_|refine xn ?_)
    refine Bj (λh=>decide (0<g h)) hl (smH4.seq hg) (λh hh H5 QB s5 q5=>?_) λH5 D2 s5 hD2 l5=>?_
    .walk_at"rx";refine⟨ld,_,rfl,dg (s5 _ _ (s4 _ _ hld3)) (hin h hh),?_⟩;walk_at"rx";exact q5
    refine⟨D2,_,rfl,aR.of l5,by rw[length_map,<- kc];simp,λy hy1 hy2=>?_⟩;have ey:=uZ hpw kc.symm hy1 hy2;subst ey;have s35:=s4.trans s5;have smH5:=smH.trans s35;walk_at"rx";refine⟨ld,_,rfl,dg (s35 _ _ hld3) (hin p pm),?_⟩;walk_at"rx";refine⟨ld,_,rfl,dg (s35 _ _ hld3) (hin q qm),?_⟩;walk_at"rx";refine⟨_,_,rfl,?_⟩;have emin:(if g q < -g p then g q else -g p)=((min a b:Nat):Int):=by rw[fp,fq];split<;>omega
    rw[emin];have hpp5:=s35 _ _ hpp3;walk_at"rx";intro x dx hx hdx nxd;refine⟨x,dx,_,_,_,rfl,ac,rfl,?_⟩;rw[bH];have sx:au H5 (upd (upd H5 dx (.own x)) x (.ins (ad .Payment) dx (kT p q (min a b:Nat)))):=((au.refl H5).upd_new hdx).upd_new hx;have hX:(upd (upd H5 dx (.own x)) x (.ins (ad .Payment) dx (kT p q (min a b:Nat)))) x=some (.ins (ad .Payment) dx (kT p q (min a b:Nat))):=ac;generalize upd (upd H5 dx (.own x)) x (.ins (ad .Payment) dx (kT p q (min a b:Nat)))=H6 at *;have hpp6:=sx _ _ hpp5;have hld6:=sx _ _ (s35 _ _ hld3);have nxp:x≠pp:=λe=>by rw[e,hpp5]at hx;cases hx
    have s36:=s35.trans sx;have smH6:=smH.trans s36;walk_at"rx";refine fQ hpp6 (by rw[length_map,sizeLine_eq];omega) ?_;walk_at"rx";refine⟨ld,n,p,q,g,_,rfl,by rw[ah (Ne.symm npl)];exact hld6,hn,hin p pm,hin q qm,?_⟩;obtain⟨pl',mlt⟩:=nxt (λh=>g h+A6 p q ((min a b:Nat):Int) h) (by unfold A6;rw[if_pos rfl,if_neg (Ne.symm npq)];omega) (by unfold A6;rw[if_neg npq,if_pos rfl];omega) (λh h1 h2=>by unfold A6;rw[if_neg (Ne.symm h1),if_neg (Ne.symm h2)];omega);refine⟨_,by rw[hm];exact mlt,_,_,_,_,λh=>g h+A6 p q ((min a b:Nat):Int) h,as++[x],done++[⟨p,q,min a b⟩],ps',rfl,(smH6.upd_new hpp0).upd_new hld,ac,by rw[ah npl,ac,map_append];rfl,?_,pl',by rw[heq,eps,List.append_assoc];rfl,rfl,by rw[length_append];show as.length+1+_<=10;omega⟩;have keepP:∀{c:Addr} {fs:List (Str×V)} {C dy:Addr},H6 c=some (.ins C dy fs)->(upd (upd H6 pp (.lst (as.map V.ref++[V.ref x]))) ld (.dK (bC n λh=>g h+A6 p q ((min a b:Nat):Int) h))) c=some (.ins C dy fs):=λ{c fs C dy} e=>by rw[ah (aP e hld6 (by intro z;cases z)),ah (aP e hpp6 (by intro z;cases z))];exact e
    refine fh (aK hpr λc _ v ⟨dy,e⟩=>⟨dy,keepP (s36 _ _ (s3 _ _ e))⟩) ⟨dx,keepP hX⟩
   .have ef:((hs.map λh=>!decide (g h=0)).any id)=false:=by
     cases e:(hs.map λh=>!decide (g h=0)).any id with
     |false=>rfl
     |true=>exact absurd (xM.mp e) hnz
    rw[ef];refine jz ?_;have hz0:∀h∈hs,g h=0:=λh hh=>Classical.byContradiction λq=>hnz ⟨h,hh,q⟩;have ep:=hpl.done hz0;rw[ep,append_nil]at heq;rw[heq]at k;walk_at"rx";exact k H3 pp as smH hpp0 (s3 _ _ hpp') (by omega) (aK hpr λc _ v h=>h.same s3)
theorem Bk {α β:Type}{R:α->β->Prop}:∀{as:List α} {bs:List β} {cs:List α} {ds:List β},Paired R as bs->Paired R cs ds->Paired R (as++cs) (bs++ds)
 |_,_,_,_,.nil,h=>h
 |_,_,_,_,.cons r t,h=>.cons r (Bk t h)
theorem jO:∀(l:fO) {t:fO},t∈Vbpoal.subsets l->t.Sublist l
 |[],t,h=>by rw[mem_singleton.mp h];exact List.Sublist.slnil
 |x::l,t,h=>by
  have h:t∈Vbpoal.subsets l++(Vbpoal.subsets l).map λy=>x::y:=h;rcases mem_append.mp h with h|h
  .exact(jO l h).cons x
  .obtain⟨y,hy,rfl⟩:=mem_map.mp h;exact(jO l hy).cons_cons x
theorem j8:∀(k:Nat) (l:fO) {g:fO},g∈Vbpoal.parted k l->g.Sublist l/\Vbpoal.even g=true
 |0,_,_,h=>by cases h
 |_+1,[],_,h=>by cases h
 |k+1,x::l,g,h=>by
  rw[jo]at h;by_cases ne:(((Vbpoal.subsets l).filter λt=>Vbpoal.even (x::t)).map λt=>(x::t)::Vbpoal.parted k (Vbpoal.without l t))=[]
  .rw[ne]at h;cases h
  .obtain⟨t,ht,e⟩:=mem_map.mp (kU _ ne);obtain⟨t1,t2⟩:=mem_filter.mp ht;rw[<- e]at h;rcases mem_cons.mp h with q|q
   .rw[q];exact⟨(jO l t1).cons_cons x,t2⟩
   .obtain⟨q1,q2⟩:=j8 k _ q;exact⟨(q1.trans List.filter_sublist).cons x,q2⟩
theorem C2 (n:Nat):(Vbpoal.nums n).Pairwise (·<·):=by unfold Vbpoal.nums;exact List.Pairwise.map _ (λa b h=>succ_lt_succ h) List.pairwise_lt_range
theorem wk {n:Nat}{f:Nat->Int}{g:fO}(h:g.Sublist (lU n f)):(g.map (·.1)).Pairwise (·<·)/\(∀x∈g.map (·.1),1<=x/\x<=n)/\(g.map (·.1)).length<=n/\g=(g.map (·.1)).map λx=>(x,f x):=by
 have s1:(g.map (·.1)).Sublist (zq n f):=by rw[<- xI];exact h.map _
 have s2:(g.map (·.1)).Sublist (Vbpoal.nums n):=s1.trans List.filter_sublist;refine⟨(C2 n).sublist s2,λx hx=>gA.mp (s2.subset hx),by have:=s2.length_le;rw[gB]at this;exact this,?_⟩;rw[map_map];refine(map_id g).symm.trans (map_congr_left λx hx=>?_);obtain⟨y,_,e⟩:=mem_map.mp (h.subset hx);rw[<- e];rfl
inductive EK (C tp:Addr)(vs:List V)(H:Hp)(Q:VK)(E:XK):Prop
 |mk (pa:Addr)(n:Nat)(f:Nat->Int)(_:vs=[.ref pa])(_:H pa=some (.dK (bC n f)))(_:n<=10)(_:Vbpoal.isum (bV (lU n f))=0)(_:fx tp H)(_:∀(H':Hp) (p:Addr) (as:List Addr),bW tp H H'->fx tp H'->H p=none->H' p=some (.lst (as.map V.ref))->as.length<=100->Paired (fe C H') as ((Vbpoal.parted ((lU n f).length+1) (lU n f)).flatMap Vbpoal.paymentsOf)->Q (.ref p) H')
theorem xN (T:Tx K mg ad fdt)(TF:uX mg base fdt tc tp):aG P w K mg base bO 7 (ad .plan_payments) (fdt .plan_payments) ["positions"] (EK (ad .Payment) tp):=by
 have G_part_into_groups:=xL (P:=P) (w:=w) T TF;have G_payments_within:=C1 (P:=P) (w:=w) (base:=base) T;refine T.f_plan_payments.fn.ok fj (λvs H Q E h=>?_) (λcdv A outer s H vs Q E hr h=>?_)
 .obtain⟨_,_,_,rfl,_⟩:=h
  rfl
 .obtain⟨pa,n,f,rfl,hpa,hn,hz,tab,k⟩:=h;refine⟨_,(ae (aq (i:=1) fj.nd rfl (Or.inl rfl) (aw af)) (ae (ci PassesOwn.never rfl (bx (bG T.f_part_into_groups G_part_into_groups (hr.mono (by decide)) (ab (pv 0) af))) (aQ (i:=2) fj.nd rfl (Or.inl rfl)) (ai (aV (dz PySem.F.plainAttrs_list PySem.F.slot_list_extend PySem.F.type_list_extend dR (pv 1) (ab (bG T.f_payments_within G_payments_within (hr.mono (by decide)) (ab (pv 2) (ab (pv 0) af))) af))))) (ai (ao (pv 1))))),?_⟩;walk_at"prep";walk_at"rx";refine aD (by decide) (λpl hpl=>?_);have s0:au H (upd H pl (.lst [])):=(au.refl H).upd_new hpl;have tab0:=tab.mono s0;have npl:pa≠pl:=aj hpa hpl;obtain⟨ps0,ht0⟩:=tab0.there;walk_at"rx";refine⟨pa,n,f,rfl,s0 _ _ hpa,hn,hz,tab0,λH1 q gs sb1 tab1 hq0 hq1 hgl hgn hgp=>?_⟩;obtain⟨ps1,ht1⟩:=tab1.there;have F4:H1 pl=some (.lst ([]:List V)):=LI.b sb1 ht0 ac;have pa1:H1 pa=some (.dK (bC n f)):=sb1 _ _ (s0 _ _ hpa) (aP (s0 _ _ hpa) ht0 (by intro z;cases z));have nqp:q≠pl:=λe=>by rw[e,ac]at hq0;cases hq0
  have sbH:bW tp H H1:=λb u e nb=>sb1 b u (s0 b u e) nb;generalize hgr:Vbpoal.parted ((lU n f).length+1) (lU n f)=G at *;have gin:∀g∈G,g.Sublist (lU n f)/\Vbpoal.even g=true:=λg hg=>j8 _ _ (by rw[hgr];exact hg);have lG:gs.length=G.length:=by have:=PySem.Paired.length hgp;rw[length_map]at this;exact this
  have ngp:∀a∈gs,a≠pl:=λa ha e=>by have q:=hgn a ha;rw[e,ac]at q;cases q
  refine⟨q,rfl,⟨_,aR.of hq1⟩,?_⟩;refine bX (K:=K) (a:=q) (xs:=gs.map V.ref) (λi σ H'=>∃(z2:Option V) (as:List Addr),σ=[some (.ref pa),some (.ref pl),z2]/\(∀b u,H1 b=some u->b≠pl->H' b=some u)/\H' pl=some (.lst (as.map V.ref))/\as.length<=10*i/\Paired (fe (ad .Payment) H') as ((G.take i).flatMap Vbpoal.paymentsOf))
   ⟨none,[],rfl,λb u e _=>e,F4,by simp,.nil⟩ (λi σ H' _ ⟨_,_,_,kp,_⟩=>aR.of (kp _ _ hq1 nqp)) ?_ ?_
  .rintro i y σ H' hi ⟨z2,as,rfl,kp,hpl',hal,hpr⟩;obtain⟨ga,hga,rfl⟩:=bb hi;obtain⟨x,hx,hgx⟩:=dj hgp hga;rw[getElem?_map]at hx;obtain⟨g,hg1,hg2⟩:=map_eq_some_iff.mp hx;subst hg2;have gm:=mem_of_getElem? hg1;obtain⟨g1,g2⟩:=gin g gm;obtain⟨o1,o2,o3,o4⟩:=wk g1;have il:i<gs.length:=(List.getElem?_eq_some_iff.mp hga).1;have eg:ki g=lM (g.map (·.1)):=by show _=List.map _ (List.map _ g);rw[map_map];rfl
   walk_at"rx";refine⟨ga,pa,g.map (·.1),n,f,rfl,?_,kp _ _ pa1 npl,hn,by omega,o2,o1,?_,λH2 p2 as2 s2 hp2 hl2 hal2 hpr2=>?_⟩
   .rw[<- eg];exact aR.of (kp _ _ hgx (ngp ga (mem_of_getElem? hga)))
   .have:(Vbpoal.isum (g.map λx=>x.2)==0)=true:=g2;rw[o4,map_map]at this;exact beq_iff_eq.mp this
   .rw[<- o4]at hpr2;have F5:=s2 _ _ hpl';have n2:p2≠pl:=λe=>by rw[e,hpl']at hp2;cases hp2
    walk_at"rx";refine lh F5 hl2 (by rw[length_map,length_map,sizeLine_eq];omega) ?_;refine⟨_,as++as2,rfl,λb u e nb=>by rw[ah nb];exact s2 _ _ (kp _ _ e nb),by rw[ac,map_append],by rw[length_append];omega,?_⟩;rw[aT hg1,List.flatMap_append];have kpP:∀{c:Addr} {v:Vbpoal.Payment},fe (ad .Payment) H2 c v->fe (ad .Payment) (upd H2 pl (.lst (as.map V.ref++as2.map V.ref))) c v:=λ{c v} ⟨d,e⟩=>⟨d,by rw[ah (aP e F5 (by intro z;cases z))];exact e⟩
    have e1:[g].flatMap Vbpoal.paymentsOf=Vbpoal.paymentsOf g:=by simp
    rw[e1];exact Bk (aK hpr λc _ v h=>kpP (h.same s2)) (aK hpr2 λc _ v h=>kpP h)
  .rintro σ H' ⟨z2,as,rfl,kp,hpl',hal,hpr⟩;rw[length_map,lG,take_length]at hpr;rw[length_map]at hal;walk_at"rx";have ntp:∀{b:Addr} {u:HO},H1 b=some u->(∀z,u≠.lst z)->b≠pl:=λ{b u} e nl z=>by rw[z,F4]at e;exact nl _ (Option.some.inj e).symm
   refine k H' pl as (λb u e nb=>kp _ _ (sbH _ _ e nb) (aj e hpl)) ?_ hpl hpl' (by omega) hpr;rcases tab1 with e|⟨c',e,o,vs,t,e1,e2⟩
   .exact .inl (kp _ _ e (ntp e λz q=>by cases q))
   .exact .inr ⟨c',kp _ _ e (ntp e λz q=>by cases q),o,vs,t,kp _ _ e1 (ntp e1 λz q=>by cases q),e2⟩
theorem aA.len_ss {H:Hp}{B:BA}{s:Vbpoal.State}(h:aA ad H B s):B.ss.length=s.statements.length:=PySem.Paired.length h.sp
theorem aA.len_ps {H:Hp}{B:BA}{s:Vbpoal.State}(h:aA ad H B s):B.ps.length=s.payments.length:=PySem.Paired.length h.pp
theorem aA.len_rs {H:Hp}{B:BA}{s:Vbpoal.State}(h:aA ad H B s):B.rs.length=s.houses.length:=by have:=PySem.Paired.length h.rp;rw[length_map]at this;exact this
inductive FY (ad:Fn->Addr)(vs:List V)(H:Hp)(Q:VK)(E:XK):Prop
 |mk (B:BA)(s:Vbpoal.State)(h:Int)(_:vs=[.ref B.b,.int h])(_:aA ad H B s)(_:Q (.bl (isHouse s h)) H)
theorem dW (T:Tx K mg ad fdt):aG P w K mg base bO 1 (ad .Book_has_house) (fdt .Book_has_house) ["self","house"] (FY ad):=by
 refine T.m_Book_has_house.fn.ok lu (λvs H Q E h=>?_) (λcdv A outer s H vs Q E hr h=>?_)
 .obtain⟨_,_,_,rfl,_⟩:=h
  rfl
 .obtain⟨B,st,h,rfl,hB,k⟩:=h;obtain⟨dx,hb⟩:=hB.bk;walk_at"bk";refine⟨_,(ai (ao (tS dw dw al (pv 1) (am (pv 0) rfl)))),?_⟩;walk_at"prep";walk_at"rx";have e:isHouse st h=(decide ((1:Int)<=h)&&decide (h<=(st.houses.length:Int))):=rfl;refine aY (λh1=>?_) (λh1=>?_)
  .rw[e,decide_eq_true h1]at k;walk_at"rx";exact k
  .rw[e,decide_eq_false h1]at k;exact k
inductive yW (ad:Fn->Addr)(vs:List V)(H:Hp)(Q:VK)(E:XK):Prop
 |mk (B:BA)(s:Vbpoal.State)(h:Nat)(_:vs=[.ref B.b,.int h])(_:aA ad H B s)(_:(1<=h/\h<=s.houses.length))(_:∀a,fu (ad .Rates) H a (jM (houseAt s h))->Q (.ref a) H)
theorem u0 {s:Vbpoal.State}{h:Nat}(hh:1<=h/\h<=s.houses.length):s.houses[h-1]?=some (houseAt s h):=by unfold houseAt;rw[if_neg (by omega),List.getD_eq_getElem?_getD,List.getElem?_eq_getElem (by omega)];rfl
theorem u1 (T:Tx K mg ad fdt):aG P w K mg base bO 1 (ad .Book_rates_of) (fdt .Book_rates_of) ["self","house"] (yW ad):=by
 refine T.m_Book_rates_of.fn.ok mn (λvs H Q E h=>?_) (λcdv A outer s H vs Q E hr h=>?_)
 .obtain⟨_,_,_,rfl,_⟩:=h
  rfl
 .obtain⟨B,st,h,rfl,hB,hh,k⟩:=h;obtain⟨dx,hb⟩:=hB.bk;walk_at"bk";refine⟨_,(ai (ao (bf aJ (am (pv 0) rfl) (aL d5 (pv 1) al) (λ_ _=>rfl)))),?_⟩;walk_at"prep";walk_at"rx";have lr:=hB.len_rs;have e:(h:Int)-1=((h-1:Nat):Int):=by omega
  rw[e];obtain⟨r,e1,e2⟩:=dj hB.rp (i:=h-1) (a:=B.rs[h-1]) (List.getElem?_eq_getElem (by omega));rw[getElem?_map,u0 hh]at e1;cases e1;exact bw (aR.of hB.rl) (fg (List.getElem?_eq_getElem (by omega))) (k _ e2)
inductive Bl (ad:Fn->Addr)(vs:List V)(H:Hp)(Q:VK)(E:XK):Prop
 |mk (B:BA)(s:Vbpoal.State)(n:Nat)(a:Addr)(_:vs=[.ref B.b,.int n])(_:aA ad H B s)(_:1<=n)(_:B.ss[n-1]?=some a)(_:Q (.ref a) H)
theorem cQ (T:Tx K mg ad fdt):aG P w K mg base bO 1 (ad .Book_find_statement) (fdt .Book_find_statement) ["self","number"] (Bl ad):=by
 refine T.m_Book_find_statement.fn.ok iQ (λvs H Q E h=>?_) (λcdv A outer s H vs Q E hr h=>?_)
 .obtain⟨_,_,_,_,rfl,_⟩:=h
  rfl
 .obtain⟨B,st,n,a,rfl,hB,hn,ha,k⟩:=h;obtain⟨dx,hb⟩:=hB.bk;walk_at"bk";refine⟨_,(ai (ao (bf aJ (am (pv 0) rfl) (aL d5 (pv 1) al) (λ_ _=>rfl)))),?_⟩;walk_at"prep";walk_at"rx";have e:(n:Int)-1=((n-1:Nat):Int):=by omega
  rw[e];exact bw (aR.of hB.sl) (fg ha) k
inductive FZ (ad:Fn->Addr)(vs:List V)(H:Hp)(Q:VK)(E:XK):Prop
 |mk (B:BA)(s:Vbpoal.State)(_:vs=[.ref B.b])(_:aA ad H B s)(_:s.statements.length<=100)(_:∀(H':Hp) (p:Addr) (as:List Addr),au H H'->H p=none->H' p=some (.lst (as.map V.ref))->as.length<=100->Paired (yP (ad .Statement) H') as (bN s)->Q (.ref p) H')
theorem mH (T:Tx K mg ad fdt):aG P w K mg base bO 1 (ad .Book_agreed_statements) (fdt .Book_agreed_statements) ["self"] (FZ ad):=by
 refine T.m_Book_agreed_statements.fn.ok cH (λvs H Q E h=>?_) (λcdv A outer s H vs Q E hr h=>?_)
 .obtain⟨_,_,rfl,_⟩:=h
  rfl
 .obtain⟨B,st,rfl,hB,hl,k⟩:=h;obtain⟨dx,hb⟩:=hB.bk;walk_at"bk";walk_at"st";refine⟨_,(ai (ao (im (own:=[("statement",1)]) rfl cH.nd (bx (am (pv 0) rfl)) (dI rfl) (λs H C cl fp=>(aQ (i:=1) cH.nd rfl (Or.inl rfl))) (λs H C cl fp=>jW (ay dH (nV K (pv 1) rfl) (aS T.g_AGREED) (aB _))) (λs H C cl fp=>(pv 1))))),?_⟩;walk_at"prep";walk_at"rx";have ls:=hB.len_ss;refine⟨B.sa,rfl,⟨_,aR.of hB.sl⟩,λD hD=>?_⟩;refine uv (J:=vo K B.sa) (n:=B.ss.length) (λj H3=>au H H3/\∃as:List Addr,H3 D=some (.lst (as.map V.ref))/\as.length<=j/\Paired (yP (ad .Statement) H3) as ((st.statements.take j).filter λx=>x.state==3))
   ⟨(au.refl H).upd_new hD,[],ac,Nat.le_refl _,.nil⟩ (λH3 q=>⟨_,aR.of (q.1 _ _ hB.sl),by rw[length_map];exact Nat.le_refl _⟩) (λj H3 hj q=>⟨_,.ref B.ss[j],aR.of (q.1 _ _ hB.sl),by rw[getElem?_map,List.getElem?_eq_getElem hj];rfl⟩) ?_ ?_
  .rintro j H3 y H4 hj ⟨s3,as,hd3,hal,hpr⟩ ⟨e,hy⟩;subst e;obtain⟨a,ha,rfl⟩:=bb (hy _ (aR.of (s3 _ _ hB.sl)));obtain⟨x,hx,dx',hax⟩:=dj hB.sp ha;have hax3:=s3 _ _ hax;have tk:(st.statements.take (j+1)).filter (λx=>x.state==3)=((st.statements.take j).filter λx=>x.state==3)++if x.state=3 then[x]else[]:=by
    rw[aT hx,filter_append]
    congr 1
    by_cases e:x.state=3<;>simp[e]
   have keep:∀{xs:List V} {c:Addr} {v:Vbpoal.Statement},yP (ad .Statement) H4 c v->yP (ad .Statement) (upd H4 D (.lst xs)) c v:=λ{xs c v} ⟨d,e⟩=>⟨d,by rw[ah (aP e hd3 (by intro z;cases z))];exact e⟩
   walk_at"rx";refine⟨rfl,?_⟩;walk_at"rx";refine aY (λh1=>?_) (λh1=>?_)
   .walk_at"rx";refine⟨_,hd3,by rw[length_map,sizeLine_eq];omega,s3.upd_new hD,as++[a],by rw[ac,map_append];rfl,by rw[length_append];exact succ_le_succ hal,?_⟩;rw[tk,if_pos (by omega)];exact fh (aK hpr λc _ v h=>keep h) (keep ⟨dx',hax3⟩)
   .refine⟨s3,as,hd3,le_succ_of_le hal,?_⟩;rw[tk,if_neg (λq=>h1 (by omega)),append_nil];exact hpr
  .rintro H3 ⟨s3,as,hd3,hal,hpr⟩;rw[ls,take_length]at hpr;exact k H3 D as s3 hD hd3 (by omega) hpr
inductive u4 (ad:Fn->Addr)(vs:List V)(H:Hp)(Q:VK)(E:XK):Prop
 |mk (B:BA)(s:Vbpoal.State)(h:Nat)(a:Addr)(_:vs=[.ref B.b,.int h,.ref a])(_:aA ad H B s)(_:(1<=h/\h<=s.houses.length))(_:Q .non (upd H B.ra (.lst ((B.rs.set (h-1) a).map V.ref))))
theorem C3 {n j:Nat}(h:j<n):Cd n (j:Int)=some j:=by unfold Cd;rw[if_pos (by omega),if_pos (by omega)];rfl
theorem qb (T:Tx K mg ad fdt):aG P w K mg base bO 1 (ad .Book_give_rates) (fdt .Book_give_rates) ["self","house","rates"] (u4 ad):=by
 refine T.m_Book_give_rates.fn.ok kJ (λvs H Q E h=>?_) (λcdv A outer s H vs Q E hr h=>?_)
 .obtain⟨_,_,_,_,rfl,_⟩:=h
  rfl
 .obtain⟨B,st,h,a,rfl,hB,hh,k⟩:=h;obtain⟨dx,hb⟩:=hB.bk;walk_at"bk";refine⟨_,(ai (Ea (pv 2) (D9 (am (pv 0) rfl) (aL d5 (pv 1) al) zP))),?_⟩;walk_at"prep";walk_at"rx";have lr:=hB.len_rs;have e:(h:Int)-1=((h-1:Nat):Int):=by omega
  rw[e];refine⟨B.ra,_,_,h-1,rfl,rfl,hB.rl,by rw[length_map];exact C3 (by omega),?_⟩;rw[<- List.map_set];exact k
inductive u5 (ad:Fn->Addr)(vs:List V)(H:Hp)(Q:VK)(E:XK):Prop
 |mk (B:BA)(s:Vbpoal.State)(m r:Int)(kvs:List (cT×V))(_:vs=[.ref B.b,.int m,.int r])(_:aA ad H B s)(_:H B.ma=some (.dK kvs))(_:kvs.length<1000)(_:Q .non (upd H B.ma (.dK (gE kvs (.inl m) (.int r)))))
theorem qc (T:Tx K mg ad fdt):aG P w K mg base bO 1 (ad .Book_give_money_rate) (fdt .Book_give_money_rate) ["self","money","rate"] (u5 ad):=by
 refine T.m_Book_give_money_rate.fn.ok iu (λvs H Q E h=>?_) (λcdv A outer s H vs Q E hr h=>?_)
 .obtain⟨_,_,_,_,_,rfl,_⟩:=h
  rfl
 .obtain⟨B,st,m,r,kvs,rfl,hB,hma,hl,k⟩:=h;obtain⟨dx,hb⟩:=hB.bk;have hu:=kq hr;walk_at"bk";refine⟨_,(ai (nN hu (am (pv 0) rfl) (pv 1) (pv 2) rfl)),?_⟩;walk_at"prep";walk_at"rx";exact⟨B.ma,_,rfl,rW.k (k:=Sum.inl m) hma (by rw[sizeLine_eq];omega),k⟩
inductive yX (ad:Fn->Addr)(vs:List V)(H:Hp)(Q:VK)(E:XK):Prop
 |mk (B:BA)(s:Vbpoal.State)(x:Addr)(_:vs=[.ref B.b,.ref x])(_:aA ad H B s)(_:s.payments.length<=1000)(_:Q .non (upd H B.pa (.lst ((B.ps++[x]).map V.ref))))
theorem jg (T:Tx K mg ad fdt):aG P w K mg base bO 1 (ad .Book_take_payment) (fdt .Book_take_payment) ["self","payment"] (yX ad):=by
 refine T.m_Book_take_payment.fn.ok jC (λvs H Q E h=>?_) (λcdv A outer s H vs Q E hr h=>?_)
 .obtain⟨_,_,_,rfl,_⟩:=h
  rfl
 .obtain⟨B,st,x,rfl,hB,hl,k⟩:=h;obtain⟨dx,hb⟩:=hB.bk;have hpl:=hB.pl;have lp:=hB.len_ps;walk_at"bk";refine⟨_,(ai (aV (dz PySem.F.plainAttrs_list PySem.F.slot_list_append PySem.F.type_list_append bZ (am (pv 0) rfl) (ab (pv 1) af)))),?_⟩;walk_at"prep";walk_at"rx";refine fQ hpl (by rw[length_map,sizeLine_eq];omega) ?_;rw[map_append]at k;exact k
def Bm:HO->Str
 |.ins _ _ ((f,_)::_)=>f
 |_ => ""
theorem Bo {α β:Type}{R S:α->β->Prop}{a:α}{y:β}:∀{as:List α} {bs:List β} {i:Nat},Paired R as bs->as.Nodup->as[i]?=some a->(∀c∈as,c≠a->∀v,R c v->S c v)->S a y->Paired S as (bs.set i y)
 |_,_,_,.nil,_,h,_,_=>by cases h
 |x::as,b::bs,0,.cons r t,nd,h,k,s=>by cases h;refine .cons s (aK t λc hc v q=>k c (mem_cons_of_mem _ hc) (λe=>(nodup_cons.mp nd).1 (e▸hc)) v q)
 |x::as,b::bs,i+1,.cons r t,nd,h,k,s=>by have h':as[i]?=some a:=h;have n:x≠a:=λe=>(nodup_cons.mp nd).1 (e▸mem_of_getElem? h');exact .cons (k x mem_cons_self n b r) (Bo t (nodup_cons.mp nd).2 h' (λc hc=>k c (mem_cons_of_mem _ hc)) s)
theorem aA.set_st {H:Hp}{B:BA}{s:Vbpoal.State}{i:Nat}{a dx:Addr}{x y:Vbpoal.Statement}(h:aA ad H B s)(ha:B.ss[i]?=some a)(hx:H a=some (.ins (ad .Statement) dx (nG x))) :
  aA ad (upd H a (.ins (ad .Statement) dx (nG y))) B { s with statements:=s.statements.set i y }:=by
 obtain⟨⟨d,a1⟩,a2,a3,⟨kvs,a4,a5⟩,a6,a7,a8,a9,a10,a11⟩:=h;refine⟨⟨d,?_⟩,?_,aK a3 λc _ v ⟨d',q⟩=>⟨d',?_⟩,⟨kvs,?_,a5⟩,?_,?_,a8,?_,aK a10 λc _ v ⟨d',q⟩=>⟨d',?_⟩,a11⟩
 .rw[ah (aP a1 hx λz=>(by decide:("day":Str) ≠ "sender") (congrArg Bm z))];exact a1
 .rw[ah (aP a2 hx (by intro z;cases z))];exact a2
 .rw[ah (aP q hx λz=>(by decide:("kilogram":Str) ≠ "sender") (congrArg Bm z))];exact q
 .rw[ah (aP a4 hx (by intro z;cases z))];exact a4
 .rw[ah (aP a6 hx (by intro z;cases z))];exact a6
 .exact Bo a7 a8 ha (λc _ n v ⟨d',q⟩=>⟨d',by rw[ah n];exact q⟩) ⟨dx,ac⟩
 .rw[ah (aP a9 hx (by intro z;cases z))];exact a9
 .rw[ah (aP q hx λz=>(by decide:("payer":Str) ≠ "sender") (congrArg Bm z))];exact q
theorem aA.set_day {H:Hp}{B:BA}{s:Vbpoal.State}{dx:Addr}{e:Int}(n:Nat)(h:aA ad H B s)(hx:H B.b=some (.ins (ad .Book) dx (zp s.day s.houses.length B.ra B.ma B.sa B.pa)))(he:e=(n:Int)) :
  aA ad (upd H B.b (.ins (ad .Book) dx (zp e s.houses.length B.ra B.ma B.sa B.pa))) B { s with day:=n }:=by
 subst he;obtain⟨⟨d,a1⟩,a2,a3,⟨kvs,a4,a5⟩,a6,a7,a8,a9,a10,a11⟩:=h;refine⟨⟨dx,ac⟩,?_,aK a3 λc _ v ⟨d',q⟩=>⟨d',?_⟩,⟨kvs,?_,a5⟩,?_,aK a7 λc _ v ⟨d',q⟩=>⟨d',?_⟩,a8,?_,aK a10 λc _ v ⟨d',q⟩=>⟨d',?_⟩,a11⟩
 .rw[ah (aP a2 hx (by intro z;cases z))];exact a2
 .rw[ah (aP q hx λz=>(by decide:("kilogram":Str) ≠ "day") (congrArg Bm z))];exact q
 .rw[ah (aP a4 hx (by intro z;cases z))];exact a4
 .rw[ah (aP a6 hx (by intro z;cases z))];exact a6
 .rw[ah (aP q hx λz=>(by decide:("sender":Str) ≠ "day") (congrArg Bm z))];exact q
 .rw[ah (aP a9 hx (by intro z;cases z))];exact a9
 .rw[ah (aP q hx λz=>(by decide:("payer":Str) ≠ "day") (congrArg Bm z))];exact q
theorem Fr.trans {H H1 H2:Hp}{B B1 B2:BA}(h:Fr H B H1 B1)(k:Fr H1 B1 H2 B2):Fr H B H2 B2:=by
 refine⟨λa o e n=>k.keep a o (h.keep a o e n) λf=>?_,λa f=>?_⟩
 .rcases h.new a f with z|z
  .exact n z
  .rw[z]at e;cases e
 .rcases k.new a f with g|z
  .exact h.new a g
  .by_cases g:B.F a
   .exact .inl g
   .refine .inr ?_;cases e:H a with
    |none=>rfl
    |some o=>rw[h.keep a o e g]at z;cases z
theorem Fr.upd {H:Hp}{B:BA}{a:Addr}{o:HO}(h:B.F a):Fr H B (L2.upd H a o) B:=⟨λb u e n=>by rw[ah (λz=>n (by rw[z];exact h))];exact e,λb f=>.inl f⟩
inductive EL (ad:Fn->Addr)(vs:List V)(H:Hp)(Q:VK)(E:XK):Prop
 |mk (B:BA)(s:Vbpoal.State)(d:Nat)(_:vs=[.ref B.b,.int d])(_:aA ad H B s)(_:∀H',aA ad H' B { s with day:=s.day+d,statements:=s.statements.map (aged (s.day+d)) }->Fr H B H' B->Q .non H')
theorem set_map {α:Type}(f:α->α){l:List α}{i:Nat}{x:α}(h:l[i]?=some x):((l.take i).map f++l.drop i).set i (f x)=(l.take (i+1)).map f++l.drop (i+1):=by
 have hi:i<l.length:=(List.getElem?_eq_some_iff.mp h).1;have hl:((l.take i).map f).length=i:=by rw[length_map,length_take];omega
 rw[aT h,g0 h,List.set_append_right _ _ (by omega),hl,Nat.sub_self,map_append,List.append_assoc]
 rfl
theorem sO (T:Tx K mg ad fdt):aG P w K mg base bO 3 (ad .Book_pass_days) (fdt .Book_pass_days) ["self","days"] (EL ad):=by
 have G_Statement_agree_by_time:=mD (P:=P) (w:=w) (base:=base) T.m_Statement_agree_by_time.fn T.tst T.m_Statement_agree_on T.m_Statement_mean_with;refine T.m_Book_pass_days.fn.ok gT (λvs H Q E h=>?_) (λcdv A outer s H vs Q E hr h=>?_)
 .obtain⟨_,_,_,rfl,_⟩:=h
  rfl
 .obtain⟨B,st,d,rfl,hB,k⟩:=h;obtain⟨dx,hb⟩:=hB.bk;walk_at"bk";refine⟨_,(ae (bp (pv 0) (aL cD (am (pv 0) rfl) (pv 1)) rfl) (ai (ci PassesOwn.never rfl (bx (am (pv 0) rfl)) (aQ (i:=2) gT.nd rfl (Or.inl rfl)) (ai (aV (cj (pv 2) T.k_Statement T.m_Statement_agree_by_time G_Statement_agree_by_time (hr.mono (by decide)) (ab (am (pv 0) rfl) af))))))),?_⟩;walk_at"prep";have e1:((st.day:Int)+(d:Int))=((st.day+d:Nat):Int):=by omega
  have b1:=hB.set_day (st.day+d) hb e1;have f1:Fr H B (upd H B.b (.ins (ad .Book) dx (zp ((st.day:Int)+(d:Int)) st.houses.length B.ra B.ma B.sa B.pa))) B:=Fr.upd (.inl rfl);walk_at"rx";have e2:cy "day" (V.int ((st.day:Int)+(d:Int))) (zp st.day st.houses.length B.ra B.ma B.sa B.pa)=zp ((st.day:Int)+(d:Int)) st.houses.length B.ra B.ma B.sa B.pa:=rfl;rw[e2];refine⟨B.sa,rfl,⟨_,aR.of b1.sl⟩,?_⟩;refine bX (K:=K) (a:=B.sa) (xs:=B.ss.map V.ref) (λi σ H'=>∃z2:Option V,σ=[some (.ref B.b),some (.int d),z2]/\aA ad H' B { st with day:=st.day+d,statements:=(st.statements.take i).map (aged (st.day+d))++st.statements.drop i }/\Fr H B H' B)
   ⟨none,rfl,b1,f1⟩ (λi σ H' _ ⟨_,_,q,_⟩=>aR.of q.sl) ?_ ?_
  .rintro i y σ H' hi ⟨z2,rfl,hB',hF⟩;obtain⟨a,ha,rfl⟩:=bb hi;obtain⟨x',hx',⟨dx',hax⟩⟩:=dj hB'.sp ha;have il:i<st.statements.length:=by have:=(List.getElem?_eq_some_iff.mp ha).1;have:=hB.len_ss;omega
   have hx:st.statements[i]?=some st.statements[i]:=List.getElem?_eq_getElem il;have ex:x'=st.statements[i]:=by
    have hl:((st.statements.take i).map (aged (st.day+d))).length=i:=by rw[length_map,length_take];omega
    have q:((st.statements.take i).map (aged (st.day+d))++st.statements.drop i)[i]?=some x':=hx';rw[List.getElem?_append_right (by omega),hl,Nat.sub_self,List.getElem?_drop,Nat.add_zero,hx]at q;exact(Option.some.inj q).symm
   subst ex;obtain⟨dxb,hb'⟩:=hB'.bk;walk_at"rx";refine⟨a,dx',_,st.day+d,rfl,hax,?_⟩;have n1:=hB'.set_st (y:=aged (st.day+d) st.statements[i]) ha hax;refine⟨_,rfl,?_,hF.trans (Fr.upd (.inr (.inr (.inr (.inr (.inr (mem_of_getElem? ha)))))))⟩;rw[<- set_map _ hx];exact n1
  .rintro σ H' ⟨z2,rfl,hB',hF⟩;have hl:B.ss.length=st.statements.length:=hB.len_ss;rw[length_map,hl,take_length,List.drop_length,append_nil]at hB';exact k H' hB' hF
theorem xO {α:Type}{R:Addr->α->Prop}{H:Hp}(hR:∀a v,R a v->∃o,H a=some o):∀{as:List Addr} {bs:List α},Paired R as bs->∀a∈as,∃o,H a=some o
 |_,_,.nil,_,h=>by cases h
 |_,_,.cons r t,a,h=>by
  rcases mem_cons.mp h with e|e
  .rw[e];exact hR _ _ r
  .exact xO hR t a e
theorem aA.add_st {H:Hp}{B:BA}{s:Vbpoal.State}{x dx:Addr}{y:Vbpoal.Statement}(h:aA ad H B s)(hx:H x=some (.ins (ad .Statement) dx (nG y)))(nx:x∉B.ss) :
  aA ad (upd H B.sa (.lst ((B.ss++[x]).map V.ref))) { B with ss:=B.ss++[x] } { s with statements:=s.statements++[y] }:=by
 obtain⟨⟨d,a1⟩,a2,a3,⟨kvs,a4,a5⟩,a6,a7,a8,a9,a10,a11⟩:=h;refine⟨⟨d,?_⟩,?_,aK a3 λc _ v ⟨d',q⟩=>⟨d',?_⟩,⟨kvs,?_,a5⟩,ac,fh (aK a7 λc _ v ⟨d',q⟩=>⟨d',?_⟩) ⟨dx,?_⟩,?_,?_,aK a10 λc _ v ⟨d',q⟩=>⟨d',?_⟩,a11⟩
 .show upd _ _ _ _=_;rw[ah (aP a1 a6 (by intro z;cases z))];exact a1
 .show upd _ _ _ _=_;rw[ah a11.1];exact a2
 .rw[ah (aP q a6 (by intro z;cases z))];exact q
 .show upd _ _ _ _=_;rw[ah (aP a4 a6 (by intro z;cases z))];exact a4
 .rw[ah (aP q a6 (by intro z;cases z))];exact q
 .rw[ah (aP hx a6 (by intro z;cases z))];exact hx
 .exact List.nodup_append.mpr ⟨a8,nodup_cons.mpr ⟨List.not_mem_nil,List.nodup_nil⟩,λc hc e he=>by rw[mem_singleton.mp he];exact λq=>nx (q▸hc)⟩
 .show upd _ _ _ _=_;rw[ah (Ne.symm a11.2.2)];exact a9
 .rw[ah (aP q a6 (by intro z;cases z))];exact q
inductive Bp (ad:Fn->Addr)(vs:List V)(H:Hp)(Q:VK)(E:XK):Prop
 |mk (B:BA)(s:Vbpoal.State)(a b n:Nat)(_:vs=[.ref B.b,.int a,.int b,.int n])(_:aA ad H B s)(_:s.statements.length<=200)(_:∀H' B',aA ad H' B' { s with statements:=s.statements++[⟨a,b,s.day,n,1,0,0⟩] }->Fr H B H' B'->B'.b=B.b->(∀a,B.F a->B'.F a)->Q (.int ((s.statements.length+1:Nat):Int)) H')
theorem lN (T:Tx K mg ad fdt):aG P w K mg base bO 3 (ad .Book_take_statement) (fdt .Book_take_statement) ["self","sender","receiver","full"] (Bp ad):=by
 have G_Statement___init__:=lI (P:=P) (w:=w) (base:=base) T.i_Statement T.tst;refine T.m_Book_take_statement.fn.ok iP (λvs H Q E h=>?_) (λcdv A outer s H vs Q E hr h=>?_)
 .obtain⟨_,_,_,_,_,rfl,_⟩:=h
  rfl
 .obtain⟨B,st,a,b,n,rfl,hB,hl,k⟩:=h;obtain⟨dx,hb⟩:=hB.bk;have hsl:=hB.sl;have ls:=hB.len_ss;walk_at"bk";refine⟨_,(ae (aV (dz PySem.F.plainAttrs_list PySem.F.slot_list_append PySem.F.type_list_append bZ (am (pv 0) rfl) (ab (mS T.c_Statement T.b_Statement G_Statement___init__ (hr.mono (by decide)) (ab (pv 1) (ab (pv 2) (ab (am (pv 0) rfl) (ab (pv 3) af))))) af))) (ai (ao (aI ax (by rfl) T.n_len boot_len (ab (am (pv 0) rfl) af))))),?_⟩;walk_at"prep";walk_at"rx";intro x dx' hx0 hdx0 nxd;refine⟨x,dx',a,b,st.day,n,rfl,ac,?_⟩;rw[bH];refine⟨rfl,?_⟩;have s1:au H (upd (upd H dx' (.own x)) x (.ins (ad .Statement) dx' (nG ⟨a,b,st.day,n,1,0,0⟩))):=((au.refl H).upd_new hdx0).upd_new hx0;generalize hH1:upd (upd H dx' (.own x)) x (.ins (ad .Statement) dx' (nG ⟨a,b,st.day,n,1,0,0⟩))=H1 at *;have hx1:H1 x=some (.ins (ad .Statement) dx' (nG ⟨a,b,st.day,n,1,0,0⟩)):=by rw[<- hH1];exact ac
  have B1:=hB.same s1;have nx:x∉B.ss:=λq=>by obtain⟨o,e⟩:=xO (H:=H) (λa v ⟨d,q⟩=>⟨_,q⟩) hB.sp x q;rw[hx0]at e;cases e
  have B2:=B1.add_st hx1 nx;walk_at"rx";refine fQ B1.sl (by rw[length_map,sizeLine_eq];omega) ?_;obtain⟨dx2,hb2⟩:=B2.bk;have e1:B.ss.map V.ref++[V.ref x]=(B.ss++[x]).map V.ref:=by rw[map_append];rfl
  rw[e1];have hb2':upd H1 B.sa (.lst ((B.ss++[x]).map V.ref)) B.b=some (.ins (ad .Book) dx2 (zp st.day st.houses.length B.ra B.ma B.sa B.pa)):=hb2;walk_at"rx";rw[length_map,length_append,ls];refine k _ _ B2 ⟨λc o e nf=>?_,λc f=>?_⟩ rfl (λc f=>?_)
  .rw[ah (λz=>nf (.inr (.inr (.inr (.inl z)))))];exact s1 _ _ e
  .rcases f with f|f|f|f|f|f
   .exact .inl (.inl f)
   .exact .inl (.inr (.inl f))
   .exact .inl (.inr (.inr (.inl f)))
   .exact .inl (.inr (.inr (.inr (.inl f))))
   .exact .inl (.inr (.inr (.inr (.inr (.inl f)))))
   .rcases mem_append.mp f with f|f
    .exact .inl (.inr (.inr (.inr (.inr (.inr f)))))
    .rw[mem_singleton.mp f];exact .inr hx0
  .rcases f with f|f|f|f|f|f
   .exact .inl f
   .exact .inr (.inl f)
   .exact .inr (.inr (.inl f))
   .exact .inr (.inr (.inr (.inl f)))
   .exact .inr (.inr (.inr (.inr (.inl f))))
   .exact .inr (.inr (.inr (.inr (.inr (mem_append_left _ f)))))
theorem yY {l:List Vbpoal.Statement}{a b:Nat}{i:Nat}{x:Vbpoal.Statement}(h:l[i]?=some x):Vbpoal.isum (((l.take (i+1)).filter λx=>x.to==a&&x.from_==b).map λx=>(x.figure:Int))=Vbpoal.isum (((l.take i).filter λx=>x.to==a&&x.from_==b).map λx=>(x.figure:Int))+if x.from_=b/\x.to=a then(x.figure:Int)else 0:=by
 rw[aT h,filter_append,map_append,dE]
 congr 1
 by_cases e1:x.from_=b
 .by_cases e2:x.to=a
  .rw[if_pos ⟨e1,e2⟩];simp[e1,e2,Vbpoal.isum]
  .rw[if_neg (λq=>e2 q.2)];simp[e1,e2,Vbpoal.isum]
 .rw[if_neg (λq=>e1 q.1)];simp[e1,Vbpoal.isum]
theorem yZ {l:List Vbpoal.Payment}{a b:Nat}{i:Nat}{x:Vbpoal.Payment}(h:l[i]?=some x):Vbpoal.isum (((l.take (i+1)).filter λx=>x.from_==a&&x.to==b).map λx=>(x.amount:Int))=Vbpoal.isum (((l.take i).filter λx=>x.from_==a&&x.to==b).map λx=>(x.amount:Int))+if x.from_=a/\x.to=b then(x.amount:Int)else 0:=by
 rw[aT h,filter_append,map_append,dE]
 congr 1
 by_cases e1:x.from_=a
 .by_cases e2:x.to=b
  .rw[if_pos ⟨e1,e2⟩];simp[e1,e2,Vbpoal.isum]
  .rw[if_neg (λq=>e2 q.2)];simp[e1,e2,Vbpoal.isum]
 .rw[if_neg (λq=>e1 q.1)];simp[e1,Vbpoal.isum]
inductive EM (ad:Fn->Addr)(vs:List V)(H:Hp)(Q:VK)(E:XK):Prop
 |mk (B:BA)(s:Vbpoal.State)(a b:Nat)(_:vs=[.ref B.b,.int a,.int b])(_:aA ad H B s)(_:s.statements.length<=100)(_:∀H',au H H'->Q (.int (Vbpoal.owes s a b)) H')
theorem wm (T:Tx K mg ad fdt):aG P w K mg base bO 2 (ad .Book_debt_of) (fdt .Book_debt_of) ["self","house","other"] (EM ad):=by
 have G_Book_agreed_statements:=mH (P:=P) (w:=w) (base:=base) T;refine T.m_Book_debt_of.fn.ok cJ (λvs H Q E h=>?_) (λcdv A outer s H vs Q E hr h=>?_)
 .obtain⟨_,_,_,_,rfl,_⟩:=h
  rfl
 .obtain⟨B,st,a,b,rfl,hB,hl,k⟩:=h;obtain⟨dx,hb⟩:=hB.bk;walk_at"bk";walk_at"st";walk_at"py";refine⟨_,(ae (aq (i:=3) cJ.nd rfl (Or.inl rfl) al) (ae (ci PassesOwn.never rfl (bx (ff (pv 0) T.k_Book T.m_Book_agreed_statements G_Book_agreed_statements (hr.mono (by decide)))) (aQ (i:=4) cJ.nd rfl (Or.inl rfl)) (ai (bg (PW.pt (eC (ay dH (am (pv 4) rfl) (pv 2) (aB _)) (dQ (ay dH (am (pv 4) rfl) (pv 1) (aB _))))) (ai (aq (i:=3) cJ.nd rfl (Or.inl rfl) (aL cD (pv 3) (am (pv 4) rfl)))) aE))) (ae (ci PassesOwn.never rfl (bx (am (pv 0) rfl)) (aQ (i:=5) cJ.nd rfl (Or.inl rfl)) (ai (bg (PW.pt (eC (ay dH (am (pv 5) rfl) (pv 1) (aB _)) (dQ (ay dH (am (pv 5) rfl) (pv 2) (aB _))))) (ai (aq (i:=3) cJ.nd rfl (Or.inl rfl) (aL d5 (pv 3) (am (pv 5) rfl)))) aE))) (ai (ao (pv 3)))))),?_⟩;walk_at"prep";walk_at"rx";refine⟨B,st,rfl,hB,hl,λH1 p as s1 hp0 hp1 hal hpr=>?_⟩;have la:as.length=(bN st).length:=PySem.Paired.length hpr;refine⟨p,rfl,⟨_,aR.of hp1⟩,?_⟩;have hb1:=s1 _ _ hb;refine bX (K:=K) (a:=p) (xs:=as.map V.ref) (λi σ H'=>∃z4 z5:Option V,σ=[some (.ref B.b),some (.int a),some (.int b),some (.int (Vbpoal.isum ((((bN st).take i).filter λx=>x.to==a&&x.from_==b).map λx=>(x.figure:Int)))),z4,z5]/\H'=H1)
   ⟨none,none,rfl,rfl⟩ (λi σ H' _ ⟨_,_,_,e⟩=>by rw[e];exact aR.of hp1) ?_ ?_
  .rintro i y σ H' hi ⟨z4,z5,rfl,rfl⟩;obtain⟨c,hc,rfl⟩:=bb hi;obtain⟨x,hx,⟨dx',hax⟩⟩:=dj hpr hc;have tk:=yY (a:=a) (b:=b) hx;walk_at"rx";refine aY (λh1=>?_) (λh1=>?_)
   .walk_at"rx";refine aY (λh2=>?_) (λh2=>?_)
    .walk_at"rx";rw[if_pos ⟨by omega,by omega⟩]at tk;rw[tk];exact⟨_,_,rfl,rfl⟩
    .rw[if_neg (λq=>h2 (by omega)),Int.add_zero]at tk;show∃_ _,_;rw[tk];exact⟨_,_,rfl,rfl⟩
   .refine jz ?_;rw[if_neg (λq=>h1 (by omega)),Int.add_zero]at tk;show∃_ _,_;rw[tk];exact⟨_,_,rfl,rfl⟩
  .rintro σ H' ⟨z4,z5,rfl,rfl⟩;rw[length_map,la,take_length];have hpl:=s1 _ _ hB.pl;have B1:=hB.same s1;have lp:=hB.len_ps;walk_at"rx";refine⟨B.pa,rfl,⟨_,aR.of hpl⟩,?_⟩;generalize hS:Vbpoal.isum (((bN st).filter λx=>x.to==a&&x.from_==b).map λx=>(x.figure:Int))=S;have eS:Vbpoal.isum ((st.statements.filter λx=>x.state==3&&(x.to==a&&x.from_==b)).map λx=>(x.figure:Int))=S:=by
    rw[<- hS];unfold bN;rw[List.filter_filter]
    congr 2
    exact List.filter_congr λx _=>Bool.and_comm _ _
   refine bX (K:=K) (a:=B.pa) (xs:=B.ps.map V.ref) (λi σ H2=>∃z4 z5:Option V,σ=[some (.ref B.b),some (.int a),some (.int b),some (.int (S-Vbpoal.isum (((st.payments.take i).filter λx=>x.from_==a&&x.to==b).map λx=>(x.amount:Int)))),z4,z5]/\H2=H')
    ⟨z4,z5,by rw[show S-Vbpoal.isum (((st.payments.take 0).filter λx=>x.from_==a&&x.to==b).map λx=>(x.amount:Int))=S from Int.sub_zero S],rfl⟩ (λi σ H' _ ⟨_,_,_,e⟩=>by rw[e];exact aR.of hpl) ?_ ?_
   .rintro i y σ H2 hi ⟨z4,z5,rfl,rfl⟩;obtain⟨c,hc,rfl⟩:=bb hi;obtain⟨x,hx,⟨dx',hax⟩⟩:=dj B1.pp hc;have tk:=yZ (a:=a) (b:=b) hx;walk_at"rx";refine aY (λ(h1:(x.from_:Int)=a)=>?_) (λ(h1:¬(x.from_:Int)=a)=>?_)
    .walk_at"rx";refine aY (λ(h2:(x.to:Int)=b)=>?_) (λ(h2:¬(x.to:Int)=b)=>?_)
     .walk_at"rx";rw[if_pos ⟨by omega,by omega⟩]at tk;rw[tk,<- Int.sub_sub];exact⟨_,_,rfl,rfl⟩
     .rw[if_neg (λq=>h2 (by omega)),Int.add_zero]at tk;show∃_ _,_;rw[tk];exact⟨_,_,rfl,rfl⟩
    .refine jz ?_;rw[if_neg (λq=>h1 (by omega)),Int.add_zero]at tk;show∃_ _,_;rw[tk];exact⟨_,_,rfl,rfl⟩
   .rintro σ H2 ⟨z4,z5,rfl,rfl⟩;rw[length_map,lp,take_length];walk_at"rx";have e:Vbpoal.owes st a b=S-Vbpoal.isum ((st.payments.filter λx=>x.from_==a&&x.to==b).map λx=>(x.amount:Int)):=by unfold Vbpoal.owes;rw[eS]
    rw[<- e];exact k _ s1
inductive Bq (ad:Fn->Addr)(vs:List V)(H:Hp)(Q:VK)(E:XK):Prop
 |mk (B:BA)(s:Vbpoal.State)(_:vs=[.ref B.b])(_:aA ad H B s)(_:Wf s)(_:∀H' p,au H H'->H p=none->H' p=some (.dK (bC s.houses.length (mv (cf s))))->Q (.ref p) H')
theorem iC (T:Tx K mg ad fdt):aG P w K mg base bO 2 (ad .Book_reckon_positions) (fdt .Book_reckon_positions) ["self"] (Bq ad):=by
 have G_Book_agreed_statements:=mH (P:=P) (w:=w) (base:=base) T;have G_shift_positions:=pj (P:=P) (w:=w) (base:=base) T;refine T.m_Book_reckon_positions.fn.ok bK (λvs H Q E h=>?_) (λcdv A outer s H vs Q E hr h=>?_)
 .obtain⟨_,_,rfl,_⟩:=h
  rfl
 .obtain⟨B,st,rfl,hB,wf,k⟩:=h;obtain⟨dx,hb⟩:=hB.bk;have hu:=kq hr;have hn:=wf.n;walk_at"bk";walk_at"st";walk_at"py";refine⟨_,(ae (aq (i:=1) bK.nd rfl (Or.inl rfl) ui) (ae (ci PassesOwn.never rfl (lZ rfl T.n_range (ab al (ab (aL cD (am (pv 0) rfl) al) af))) (aQ (i:=2) bK.nd rfl (Or.inl rfl)) (ai (nN hu (pv 1) (pv 2) al rfl))) (ae (ci PassesOwn.never rfl (bx (ff (pv 0) T.k_Book T.m_Book_agreed_statements G_Book_agreed_statements (hr.mono (by decide)))) (aQ (i:=3) bK.nd rfl (Or.inl rfl)) (ai (aV (bG T.f_shift_positions G_shift_positions (hr.mono (by decide)) (ab (pv 1) (ab (am (pv 3) rfl) (ab (am (pv 3) rfl) (ab (am (pv 3) rfl) af)))))))) (ae (ci PassesOwn.never rfl (bx (am (pv 0) rfl)) (aQ (i:=4) bK.nd rfl (Or.inl rfl)) (ai (aV (bG T.f_shift_positions G_shift_positions (hr.mono (by decide)) (ab (pv 1) (ab (am (pv 4) rfl) (ab (am (pv 4) rfl) (ab (am (pv 4) rfl) af)))))))) (ai (ao (pv 1))))))),?_⟩;walk_at"prep";walk_at"rx";intro p hp0;have s0:au H (upd H p (.dK [])):=(au.refl H).upd_new hp0;have hb0:=s0 _ _ hb;walk_at"rx";refine⟨1,(st.houses.length:Int)+1,rfl,⟨by decide,by decide,by omega,by omega⟩,?_⟩;generalize hN:st.houses.length=n at *;refine sg (J:=x9 1 ((n:Int)+1-1).toNat) (n:=n) (λi σ H'=>∃z2 z3 z4:Option V,σ=[some (.ref B.b),some (.ref p),z2,z3,z4]/\au H H'/\H' p=some (.dK (bC i (mv []))))
   ⟨none,none,none,rfl,s0,ac⟩ (λ_ _ _=>by show((n:Int)+1-1).toNat<=n;omega) (λi _ _ h _=>by show i<((n:Int)+1-1).toNat;omega) ?_ ?_
  .rintro i σ H1 x H2 hi ⟨z2,z3,z4,rfl,s1,hp1⟩ ⟨e,ex⟩;subst e ex;walk_at"rx";have ei:(1:Int)+(i:Int)=((i+1:Nat):Int):=by omega
   rw[ei];refine⟨p,_,rfl,rW.k (k:=Sum.inl ((i+1:Nat):Int)) hp1 (by rw[jN,sizeLine_eq];omega),?_⟩;rw[A5];refine⟨_,_,_,rfl,s1.upd_new hp0,?_⟩;rw[ac];exact congrArg (λx=>some (HO.dK x)) (fv λk _ _=>by
    show(if k=i+1 then(0:Int)else mv [] k)=mv [] k;split<;>rfl)
  .rintro σ H1 ⟨z2,z3,z4,rfl,s1,hp1⟩;have hb1:=s1 _ _ hb;have B1:=hB.same s1;walk_at"rx";refine⟨B,st,rfl,B1,wf.st,λH2 q as s2 hq0 hq1 hal hpr=>?_⟩;have la:as.length=(bN st).length:=PySem.Paired.length hpr;have npq:q≠p:=Ne.symm (aj hp1 hq0);have s12:=s1.trans s2;refine⟨q,rfl,⟨_,aR.of hq1⟩,?_⟩;refine bX (K:=K) (a:=q) (xs:=as.map V.ref) (λi σ H'=>∃z2 z3 z4:Option V,σ=[some (.ref B.b),some (.ref p),z2,z3,z4]/\(∀b u,H2 b=some u->b≠p->H' b=some u)/\H' p=some (.dK (bC n (mv (((bN st).take i).map nu)))))
    ⟨z2,z3,z4,rfl,λb u e _=>e,s2 _ _ hp1⟩ (λi σ H' _ ⟨_,_,_,_,kp,_⟩=>aR.of (kp _ _ hq1 npq)) ?_ ?_
   .rintro i y σ H' hi ⟨z2,z3,z4,rfl,kp,hp'⟩;obtain⟨c,hc,rfl⟩:=bb hi;obtain⟨x,hx,⟨dx',hax⟩⟩:=dj hpr hc;have hax':=kp _ _ hax (aP hax (s2 _ _ hp1) (by intro z;cases z));have hxi:=wf.si x (mem_filter.mp (mem_of_getElem? hx)).1;rw[hN]at hxi;walk_at"rx";refine⟨p,n,x.from_,x.to,_,x.figure,rfl,hp',by omega,hxi.1,hxi.2,?_⟩;refine⟨_,_,_,rfl,λb u e nb=>by rw[ah nb];exact kp b u e nb,?_⟩;rw[ac,aT hx,map_append];exact congrArg (λx=>some (HO.dK x)) (fv λk _ _=>(rK _ (nu x) k).symm)
   .rintro σ H3 ⟨z2,z3,z4,rfl,kp,hp3⟩;rw[length_map,la,take_length]at hp3;have s3:au H H3:=λb u e=>kp _ _ (s12 b u e) (aj e hp0);have hb3:=s3 _ _ hb;have hpl:=s3 _ _ hB.pl;have B3:=hB.same s3;have lp:=hB.len_ps;have npp:B.pa≠p:=aj hB.pl hp0;walk_at"rx";refine⟨B.pa,rfl,⟨_,aR.of hpl⟩,?_⟩;refine bX (K:=K) (a:=B.pa) (xs:=B.ps.map V.ref) (λi σ H'=>∃z2 z3 z4:Option V,σ=[some (.ref B.b),some (.ref p),z2,z3,z4]/\(∀b u,H3 b=some u->b≠p->H' b=some u)/\H' p=some (.dK (bC n (mv ((bN st).map nu++(st.payments.take i).map fC)))))
     ⟨z2,z3,z4,rfl,λb u e _=>e,by rw[take_zero,map_nil,append_nil];exact hp3⟩ (λi σ H' _ ⟨_,_,_,_,kp,_⟩=>aR.of (kp _ _ hpl npp)) ?_ ?_
    .rintro i y σ H' hi ⟨z2,z3,z4,rfl,kp,hp'⟩;obtain⟨c,hc,rfl⟩:=bb hi;obtain⟨x,hx,⟨dx',hax⟩⟩:=dj B3.pp hc;have hax':=kp _ _ hax (aP hax hp3 (by intro z;cases z));have hxi:=wf.pi x (mem_of_getElem? hx);rw[hN]at hxi;walk_at"rx";refine⟨p,n,x.from_,x.to,_,x.amount,rfl,hp',by omega,hxi.1,hxi.2,?_⟩;refine⟨_,_,_,rfl,λb u e nb=>by rw[ah nb];exact kp b u e nb,?_⟩;rw[ac,aT hx,map_append,<- List.append_assoc];exact congrArg (λx=>some (HO.dK x)) (fv λk _ _=>(rK _ (fC x) k).symm)
    .rintro σ H4 ⟨z2,z3,z4,rfl,kp,hp4⟩;rw[length_map,lp,take_length]at hp4;walk_at"rx";exact k H4 p (λb u e=>kp _ _ (s3 b u e) (aj e hp0)) hp0 hp4
def EN (n:Nat):Vbpoal.State:={ Vbpoal.start with houses:=replicate n noHouse }
def GX (n:Nat)(x1 x2 x3 x4:V):List (Str×V):=[("day",.int 0),("houses",.int n),("rates",x1),("moneys",x2),("statements",x3),("payments",x4)]
inductive EO (ad:Fn->Addr)(vs:List V)(H:Hp)(Q:VK)(E:XK):Prop
 |mk (b dx:Addr)(fs:List (Str×V))(n:Nat)(_:vs=[.ref b,.int n])(_:(fs=[]\/∃(d m:Int) (x1 x2 x3 x4:Addr),fs=zp d m x1 x2 x3 x4))(_:H b=some (.ins (ad .Book) dx fs))(_:n<=10)(_:∀H' B',B'.b=b->aA ad H' B' (EN n)->(∀a o,H a=some o->a≠b->H' a=some o)->(∀a,B'.F a->a=b\/H a=none)->Q .non H')
theorem kD (T:Tx K mg ad fdt):aG P w K mg base bO 3 (ad .Book_start_anew) (fdt .Book_start_anew) ["self","houses"] (EO ad):=by
 have G_Rates___init__:=kz (P:=P) (w:=w) (mg:=mg) (base:=base) T.i_Rates T.tra;refine T.m_Book_start_anew.fn.ok ej (λvs H Q E h=>?_) (λcdv A outer s H vs Q E hr h=>?_)
 .obtain⟨_,_,_,_,rfl,_⟩:=h
  rfl
 .obtain⟨b,dx,fs,n,rfl,hf,hb,hn,k⟩:=h;walk_at"bk";refine⟨_,(ae (bp (pv 0) al rfl) (ae (bp (pv 0) (pv 1) rfl) (ae (bp (pv 0) (im (own:=[("house",2)]) rfl ej.nd (lY rfl T.n_range (ab (pv 1) af)) (dI rfl) (λs H C cl fp=>(aQ (i:=2) ej.nd rfl (Or.inl rfl))) (λs H C cl fp=>eE) (λs H C cl fp=>(mS T.c_Rates T.b_Rates G_Rates___init__ (hr.mono (by decide)) (ab al (ab al (ab al af)))))) rfl) (ae (bp (pv 0) ui rfl) (ae (bp (pv 0) (aw af) rfl) (ai (bp (pv 0) (aw af) rfl))))))),?_⟩;walk_at"prep";have all:∀x1 x2 x3 x4:V,fs.length<900/\cy "payments" x4 (cy "statements" x3 (cy "moneys" x2 (cy "rates" x1 (cy "houses" (.int n) (cy "day" (.int 0) fs)))))=GX n x1 x2 x3 x4/\(cy "day" (V.int 0) fs).length<1000/\(cy "houses" (.int n) (cy "day" (V.int 0) fs)).length<1000/\(cy "rates" x1 (cy "houses" (.int n) (cy "day" (V.int 0) fs))).length<1000/\(cy "moneys" x2 (cy "rates" x1 (cy "houses" (.int n) (cy "day" (V.int 0) fs)))).length<1000/\(cy "statements" x3 (cy "moneys" x2 (cy "rates" x1 (cy "houses" (.int n) (cy "day" (V.int 0) fs))))).length<1000:=by
   intro x1 x2 x3 x4;rcases hf with rfl|⟨d,m,y1,y2,y3,y4,rfl⟩
   .exact⟨lb rfl,rfl,lb rfl,lb rfl,lb rfl,lb rfl,lb rfl⟩
   .exact⟨lb rfl,rfl,lb rfl,lb rfl,lb rfl,lb rfl,lb rfl⟩
  have l0:fs.length<1000:=by have:=(all .non .non .non .non).1;omega
  have l1:=(all .non .non .non .non).2.2.1;have l2:=(all .non .non .non .non).2.2.2.1;walk_at"rd";refine⟨_,_,_,_,rfl,hb,by assumption,by assumption,l0,?_⟩;walk_at"rd";refine⟨_,_,_,_,rfl,ac,by assumption,by assumption,l1,?_⟩;rw[bH];walk_at"rd";generalize hF2:cy "houses" (V.int n) (cy "day" (V.int 0) fs)=f2 at *;have hb1:upd H b (.ins (ad .Book) dx f2) b=some (.ins (ad .Book) dx f2):=ac;have k1:∀a o,H a=some o->a≠b->upd H b (.ins (ad .Book) dx f2) a=some o:=λa o e na=>by rw[ah na];exact e
  have fr1:∀a,upd H b (.ins (ad .Book) dx f2) a=none->H a=none:=λa e=>by
   by_cases q:a=b
   .rw[q,ac]at e;cases e
   .rw[ah q]at e;exact e
  generalize hH1:upd H b (.ins (ad .Book) dx f2)=H1 at *;refine⟨(n:Int),rfl,by omega,by omega,λD hD=>?_⟩;have hn':(n:Int).toNat=n:=toNat_natCast n;refine fM (D:=D) (J:=x9 0 (n:Int).toNat) (n:=n) (λi H'=>au H1 H'/\∃rs:List Addr,H' D=some (.lst (rs.map V.ref))/\Paired (fu (ad .Rates) H') rs (replicate i (jM noHouse)))
   ⟨(au.refl H1).upd_new hD,[],ac,.nil⟩ (λ_ _=>by show(n:Int).toNat<=n;omega) (λi _ h _=>by show i<(n:Int).toNat;omega) ?_ ?_
  .rintro i H2 x H3 hi ⟨s2,rs,hD2,hpr⟩ ⟨e,ex⟩;subst e ex;have lrs:rs.length=i:=by have:=PySem.Paired.length hpr;rw[List.length_replicate]at this;exact this
   walk_at"rd";refine⟨rfl,?_⟩;walk_at"rd";intro y dy hy0 hdy0 nyd;refine⟨y,dy,0,0,0,rfl,ac,?_⟩;rw[bH];refine⟨rfl,?_⟩;have s3:au H3 (upd (upd H3 dy (.own y)) y (.ins (ad .Rates) dy (zo 0 0 0))):=((au.refl H3).upd_new hdy0).upd_new hy0;have hy3:upd (upd H3 dy (.own y)) y (.ins (ad .Rates) dy (zo 0 0 0)) y=some (.ins (ad .Rates) dy (zo 0 0 0)):=ac;generalize upd (upd H3 dy (.own y)) y (.ins (ad .Rates) dy (zo 0 0 0))=H4 at *;have hD4:=s3 _ _ hD2;refine⟨_,hD4,by rw[length_map,sizeLine_eq];omega,(s2.trans s3).upd_new hD,rs++[y],by rw[ac,map_append];rfl,?_⟩;rw[List.replicate_succ'];have kpR:∀{xs:List V} {c:Addr} {v:Int×Int×Int},fu (ad .Rates) H4 c v->fu (ad .Rates) (upd H4 D (.lst xs)) c v:=λ{xs c v} ⟨d,e⟩=>⟨d,by rw[ah (aP e hD4 (by intro z;cases z))];exact e⟩
   exact fh (aK hpr λc _ v ⟨d,q⟩=>kpR ⟨d,s3 _ _ q⟩) (kpR ⟨dy,hy3⟩)
  .rintro H2 ⟨s2,rs,hD2,hpr⟩;have hb2:=s2 _ _ hb1;have f3:=(all (.ref D) .non .non .non).2.2.2.2.1;walk_at"rd";refine⟨_,_,_,_,rfl,hb2,by assumption,by assumption,l2,?_⟩;have nDb:D≠b:=Ne.symm (aj hb1 hD);walk_at"rx";intro ma hma0;have nma:ma≠b:=λe=>by rw[e,ac]at hma0;cases hma0
   rw[ah nma]at hma0;walk_at"rd";refine⟨_,_,_,_,rfl,(by rw[ah (Ne.symm nma)];exact ac),by assumption,by assumption,f3,?_⟩;walk_at"rx";refine aD (by decide) (λsa hsa0=>?_);have nsa:sa≠b:=λe=>by rw[e,ac]at hsa0;cases hsa0
   rw[ah nsa]at hsa0;have nsm:sa≠ma:=λe=>by rw[e,ac]at hsa0;cases hsa0
   rw[ah nsm,ah nsa]at hsa0;walk_at"rd";refine⟨_,_,_,_,rfl,(by rw[ah (Ne.symm nsa)];exact ac),by assumption,by assumption,(all (.ref D) (.ref ma) .non .non).2.2.2.2.2.1,?_⟩;walk_at"rx";refine aD (by decide) (λpa hpa0=>?_);have npa:pa≠b:=λe=>by rw[e,ac]at hpa0;cases hpa0
   rw[ah npa]at hpa0;have nps:pa≠sa:=λe=>by rw[e,ac]at hpa0;cases hpa0
   rw[ah nps,ah npa]at hpa0;have npm:pa≠ma:=λe=>by rw[e,ac]at hpa0;cases hpa0
   rw[ah npm,ah npa]at hpa0;walk_at"rd";refine⟨_,_,_,_,rfl,(by rw[ah (Ne.symm npa)];exact ac),by assumption,by assumption,(all (.ref D) (.ref ma) (.ref sa) .non).2.2.2.2.2.2,?_⟩;rw[(all (.ref D) (.ref ma) (.ref sa) (.ref pa)).2.1];have fin:∀a u,H2 a=some u->a≠b->upd (upd (upd (upd (upd (upd (upd H2 b (.ins (ad .Book) dx (cy "rates" (.ref D) f2))) ma (.dK [])) b (.ins (ad .Book) dx (cy "moneys" (.ref ma) (cy "rates" (.ref D) f2)))) sa (.lst [])) b (.ins (ad .Book) dx (cy "statements" (.ref sa) (cy "moneys" (.ref ma) (cy "rates" (.ref D) f2))))) pa (.lst [])) b (.ins (ad .Book) dx (GX n (.ref D) (.ref ma) (.ref sa) (.ref pa))) a=some u:=λa u e na=>by rw[ah na,ah (aj e hpa0),ah na,ah (aj e hsa0),ah na,ah (aj e hma0),ah na];exact e
   refine k _ ⟨b,D,ma,sa,pa,rs,[],[]⟩ rfl ⟨⟨dx,?_⟩,fin _ _ hD2 nDb,?_,⟨[],?_,rfl,λk=>rfl⟩,?_,.nil,List.nodup_nil,?_,.nil,?_⟩ (λa o e na=>fin _ _ (s2 _ _ (k1 a o e na)) na) (λa f=>?_)
   .rw[ac];show _=some (HO.ins _ _ (zp 0 ((replicate n noHouse).length) D ma sa pa));rw[List.length_replicate];rfl
   .show Paired _ rs ((replicate n noHouse).map jM);rw[List.map_replicate];refine aK hpr λc _ v ⟨d,q⟩=>⟨d,fin _ _ q ?_⟩
    intro e;rw[e,hb2]at q;have z:=Option.some.inj q;rw[<- hF2]at z;have z2:=congrArg Bm z;rcases hf with rfl|⟨_,_,_,_,_,_,rfl⟩
    .exact absurd z2 (by show¬("day":Str) = "kilogram";decide)
    .exact absurd z2 (by show¬("day":Str) = "kilogram";decide)
   .show upd _ _ _ ma=_;rw[ah nma,ah (Ne.symm npm),ah nma,ah (Ne.symm nsm),ah nma,ac]
   .show upd _ _ _ sa=_;rw[ah nsa,ah (Ne.symm nps),ah nsa,ac];rfl
   .show upd _ _ _ pa=_;rw[ah npa,ac];rfl
   .exact⟨aj hD2 hsa0,aj hD2 hpa0,Ne.symm nps⟩
   .rcases f with f|f|f|f|f|f
    .exact .inl f
    .refine .inr ?_;rw[show a=D from f];exact fr1 _ hD
    .refine .inr ?_;rw[show a=ma from f];exact fr1 _ (s2.none_of hma0)
    .refine .inr ?_;rw[show a=sa from f];exact fr1 _ (s2.none_of hsa0)
    .refine .inr ?_;rw[show a=pa from f];exact fr1 _ (s2.none_of hpa0)
    .cases f
inductive wn (ad:Fn->Addr)(vs:List V)(H:Hp)(Q:VK)(E:XK):Prop
 |mk (b dx:Addr)(_:vs=[.ref b])(_:H b=some (.ins (ad .Book) dx []))(_:∀H' B',B'.b=b->aA ad H' B' Vbpoal.start->(∀a o,H a=some o->a≠b->H' a=some o)->(∀a,B'.F a->a=b\/H a=none)->Q .non H')
theorem sP (T:Tx K mg ad fdt):aG P w K mg base bO 4 (ad .Book___init__) (fdt .Book___init__) ["self"] (wn ad):=by
 have G_Book_start_anew:=kD (P:=P) (w:=w) (base:=base) T;refine T.i_Book.ok mm (λvs H Q E h=>?_) (λcdv A outer s H vs Q E hr h=>?_)
 .obtain⟨_,_,rfl,_⟩:=h
  rfl
 .obtain⟨b,dx,rfl,hb,k⟩:=h;refine⟨_,(ai (aV (cj (pv 0) T.k_Book T.m_Book_start_anew G_Book_start_anew (hr.mono (by decide)) (ab (aS T.g_HOUSES_AT_FIRST) af)))),?_⟩;walk_at"prep";walk_at"rx";exact⟨b,dx,[],2,rfl,.inl rfl,hb,by decide,k⟩
open TL
def y6 (i:Int):Str:=Str.ofString (toString i)
def bT (x:i3):Str:=Txt.join " " (x.1::x.2.map y6)
theorem mI (S:List Nat):∀l:List (List Nat),(eZ S l).length<=(l.map List.length).sum+l.length*S.length
 |[]=>zero_le _
 |[p]=>by simp[eZ]
 |p::q::r=>by have ih:=mI S (q::r);show(p++(S++eZ S (q::r))).length<=_;rw[length_append,length_append,map_cons,List.sum_cons,length_cons,Nat.add_mul,Nat.one_mul];omega
theorem pq {k:Nat}:∀{l:List Nat},(∀x∈l,x<=k)->l.sum<=l.length*k
 |[],_=>zero_le _
 |x::l,h=>by have ih:=pq (l:=l) λy hy=>h y (mem_cons_of_mem _ hy);have:=h x mem_cons_self;rw[List.sum_cons,length_cons,Nat.add_mul,Nat.one_mul];omega
def dZ (i:Int):Prop:=0<=i/\i<=999999999
theorem sQ {i:Int}(h:dZ i):tl (y6 i)=io i.toNat:=by
 have e:i=((i.toNat:Nat):Int):=by have:=h.1;omega
 show tl (Str.ofString (toString i))=_;rw[e,z0,toNat_natCast]
theorem u6 {i:Int}(h:dZ i):(y6 i).length<=10:=by
 rw[len_tl,sQ h];refine z9 (k:=10) (by decide) ?_;have:=h.2;have:(10:Nat)^10=10000000000:=by decide
 omega
theorem pA {x:i3}(h:∀i∈x.2,dZ i):tl (bT x)=eZ [32] (tl x.1::x.2.map λi=>io i.toNat):=by
 unfold bT;rw[TL.join_eq,rY,map_cons,map_map];have e:tl (" ":Str)=[32]:=by decide +kernel
 rw[e]
 congr 2
 exact map_congr_left λi hi=>sQ (h i hi)
theorem mJ {x:i3}(h:∀i∈x.2,dZ i)(h1:x.1.length<=10)(h2:x.2.length<=3):(bT x).length<=50:=by
 rw[len_tl,pA h];refine le_trans (mI _ _) ?_;rw[map_cons,List.sum_cons,map_map,<- len_tl,length_cons,length_map];have:=pq (k:=10) (l:=x.2.map (List.length∘λi=>io i.toNat)) (by
  intro y hy;obtain⟨i,hi,rfl⟩:=mem_map.mp hy;have q:=u6 (h i hi);rw[len_tl,sQ (h i hi)]at q;exact q)
 rw[length_map]at this;have e:([32]:List Nat).length=1:=rfl;rw[e];omega
inductive Br (vs:List V)(H:Hp)(Q:VK)(E:XK):Prop
 |mk (nm:Str)(na:Addr)(ns:List Int)(_:vs=[.str nm,.ref na])(_:LI H na ns)(_:(∀i∈ns,dZ i))(_:nm.length<=10)(_:ns.length<=3)(_:∀H',au H H'->Q (.str (bT (nm,ns))) H')
theorem wo (T:Tx K mg ad fdt):aG P w K mg base bO 1 (ad .line_of) (fdt .line_of) ["name","numbers"] Br:=by
 refine T.f_line_of.fn.ok kM (λvs H Q E h=>?_) (λcdv A outer s H vs Q E hr h=>?_)
 .obtain⟨_,_,_,rfl,_⟩:=h
  rfl
 .obtain⟨nm,na,ns,rfl,hna,hok,hnm,hlen,k⟩:=h;refine⟨_,(ai (ao (xc iJ (aL d9 (aw (ab (pv 0) af)) (im (own:=[("number",2)]) rfl kM.nd (bx (pv 1)) (dI rfl) (λs H C cl fp=>(aQ (i:=2) kM.nd rfl (Or.inl rfl))) (λs H C cl fp=>eE) (λs H C cl fp=>(qz rN (by rfl) T.n_str PyProof.Rows.boot_str (ab (pv 2) af)))))))),?_⟩;walk_at"prep";walk_at"rx";refine⟨⟨_,rfl⟩,?_⟩;walk_at"rx";refine aD (lb rfl) (λp hp=>?_);have s1:au H (upd H p (.lst [.str nm])):=(au.refl H).upd_new hp;have hp1:upd H p (.lst [.str nm]) p=some (.lst [.str nm]):=ac;have hn1:=s1 _ _ hna;walk_at"rx";refine⟨na,rfl,⟨_,aR.of hn1⟩,λD hD=>?_⟩;generalize upd H p (.lst [.str nm])=H1 at *;refine fM (J:=vo K na) (n:=ns.length) (λj H2=>au H1 H2/\H2 D=some (.lst (((ns.take j).map y6).map V.str)))
   ⟨(au.refl H1).upd_new hD,ac⟩ (λH2 h=>⟨_,aR.of (h.1 _ _ hn1),by rw[length_map];exact Nat.le_refl _⟩) (λj H2 hj h=>⟨_,.int ns[j],aR.of (h.1 _ _ hn1),by rw[getElem?_map,List.getElem?_eq_getElem hj];rfl⟩) ?_ ?_
  .rintro j H2 y H3 hj ⟨s2,hd2⟩ ⟨e,hy⟩;subst e;obtain⟨t,ht,rfl⟩:=bb (hy _ (aR.of (s2 _ _ hn1)));have okt:=hok t (mem_of_getElem? ht);walk_at"rx";refine⟨rfl,?_⟩;walk_at"rx";refine⟨t,rfl,?_,?_⟩
   .by_cases z:t.natAbs=0
    .rw[z];decide
    .refine(Nat.log2_lt z).mpr (lt_of_lt_of_le (m:=2^30) ?_ (Nat.pow_le_pow_right (by decide) (by decide)));have:=okt.1;have:=okt.2;have:(2:Nat)^30=1073741824:=by decide
     omega
   refine⟨_,hd2,?_,s2.upd_new hD,?_⟩
   .rw[length_map,length_map,length_take,sizeLine_eq];omega
   .show upd _ _ _ _=_;rw[ac,aT ht,map_append,map_append];rfl
  .rintro H2 ⟨s2,hd2⟩;rw[take_length]at hd2;refine⟨p,D,_,_,rfl,rfl,s2 _ _ hp1,hd2,by rw[length_map,length_map,sizeLine_eq];show 1+_<=_;omega,λq hq=>?_⟩;refine⟨" ",q,nm::ns.map y6,rfl,rfl,.inl (aR.of (by rw[ac];rfl)),?_,?_⟩
   .rw[map_cons,List.sum_cons,map_map,length_cons,length_map];have:=pq (k:=10) (l:=ns.map ((λx=>x.length)∘y6)) (by
     intro y hy;obtain⟨i,hi,rfl⟩:=mem_map.mp hy;exact u6 (hok i hi))
    rw[length_map]at this;have e:(" ":Str).length=1:=by decide +kernel
    rw[e];omega
   .exact k _ (s1.trans (s2.upd_new (s2.none_of hq)))
def pB (sd rc:Int)(xs:List i3):Str:=Txt.join "\n" (bT ("FROM",[sd])::bT ("TO",[rc])::xs.map bT)
theorem wp {x:i3}(h:d8 x):(∀i∈x.2,dZ i)/\x.1.length<=10/\x.2.length<=3:=by
 cases h with
 |dues g s p h1 h2 h3=>
  refine⟨λi hi=>?_,by show("DUES":Str).length<=10;decide +kernel,lb rfl⟩;have hi:i∈[g,s,p]:=hi;simp only[mem_cons,List.not_mem_nil,or_false]at hi;unfold dZ;omega
 |transit m g h1 h2=>
  refine⟨λi hi=>?_,by show("TRANSIT":Str).length<=10;decide +kernel,lb rfl⟩;have hi:i∈[m,g]:=hi;simp only[mem_cons,List.not_mem_nil,or_false]at hi;unfold dZ;omega
 |orders m a h1 h2=>
  refine⟨λi hi=>?_,by show("ORDERS":Str).length<=10;decide +kernel,lb rfl⟩;have hi:i∈[m,a]:=hi;simp only[mem_cons,List.not_mem_nil,or_false]at hi;unfold dZ;omega
theorem pC {i:Int}(h:dZ i):∀j∈[i],dZ j:=λj hj=>by rw[mem_singleton.mp hj];exact h
theorem xP {sd rc:Int}{xs:List i3}:tl (pB sd rc xs)=eZ [10] (tl (bT ("FROM",[sd]))::tl (bT ("TO",[rc]))::xs.map λx=>tl (bT x)):=by
 unfold pB;rw[TL.join_eq,rY,map_cons,map_cons,map_map];have e:tl ("\n":Str)=[10]:=by decide +kernel
 rw[e];rfl
theorem j9 {sd rc:Int}{xs:List i3}(h1:dZ sd)(h2:dZ rc)(hx:∀x∈xs,d8 x):∀y∈bT ("FROM",[sd])::bT ("TO",[rc])::xs.map bT,y.length<=50:=by
 intro y hy;rcases mem_cons.mp hy with rfl|hy
 .exact mJ (pC h1) (by show("FROM":Str).length<=10;decide +kernel) (lb rfl)
 rcases mem_cons.mp hy with rfl|hy
 .exact mJ (pC h2) (by show("TO":Str).length<=10;decide +kernel) (lb rfl)
 obtain⟨x,hx',rfl⟩:=mem_map.mp hy;obtain⟨a,b,c⟩:=wp (hx x hx');exact mJ a b c
theorem u7 {sd rc:Int}{xs:List i3}(h1:dZ sd)(h2:dZ rc)(hx:∀x∈xs,d8 x)(hl:xs.length<=10):(pB sd rc xs).length<=1000:=by
 rw[len_tl,xP];refine le_trans (mI _ _) ?_;have:=pq (k:=50) (l:=(tl (bT ("FROM",[sd]))::tl (bT ("TO",[rc]))::xs.map λx=>tl (bT x)).map List.length) (by
  intro y hy;obtain⟨z,hz,rfl⟩:=mem_map.mp hy;rcases mem_cons.mp hz with rfl|hz
  .rw[<- len_tl];exact j9 h1 h2 hx _ mem_cons_self
  rcases mem_cons.mp hz with rfl|hz
  .rw[<- len_tl];exact j9 h1 h2 hx _ (mem_cons_of_mem _ mem_cons_self)
  obtain⟨x,hx',rfl⟩:=mem_map.mp hz;rw[<- len_tl];exact j9 h1 h2 hx _ (mem_cons_of_mem _ (mem_cons_of_mem _ (mem_map.mpr ⟨x,hx',rfl⟩))))
 rw[length_map,length_cons,length_cons,length_map]at this;rw[length_cons,length_cons,length_map];have e:([10]:List Nat).length=1:=rfl;rw[e];omega
inductive y8 (CR CE:Addr)(vs:List V)(H:Hp)(Q:VK)(E:XK):Prop
 |mk (ra ea:Addr)(sd rc:Int)(es:List (Addr×Addr))(xs:List i3)(_:vs=[.ref ra])(_:kO CR CE H ra ea 0 sd rc es xs)(_:(∀x∈xs,d8 x))(_:xs.length<=10)(_:dZ sd)(_:dZ rc)(_:∀(H':Hp) (p:Addr),au H H'->H p=none->LI H' p (bq (pB sd rc xs))->Q (.ref p) H')
theorem wq (T:Tx K mg ad fdt):aG P w K mg base bO 2 (ad .written) (fdt .written) ["reading"] (y8 (ad .Reading) (ad .Entry)):=by
 have G_line_of:=wo (P:=P) (w:=w) (base:=base) T;have G_bytes_of:=mY (P:=P) (w:=w) (base:=base) T.f_bytes_of.fn T.n_ord;refine T.f_written.fn.ok iS (λvs H Q E h=>?_) (λcdv A outer s H vs Q E hr h=>?_)
 .obtain⟨_,_,_,_,_,_,rfl,_⟩:=h
  rfl
 .obtain⟨ra,ea,sd,rc,es,xs,rfl,R,hok,hlen,hsd,hrc,k⟩:=h;have les:es.length=xs.length:=PySem.Paired.length R.ents;have kR:=T.k_Reading;have n2:=T.n_Reading_sender;have n3:=T.n_Reading_receiver;have n4:=T.n_Reading_entries;have kE:=T.k_Entry;have n5:=T.n_Entry_name;have n6:=T.n_Entry_numbers;obtain⟨dx,hra⟩:=R.obj;have hea:=R.lst;refine⟨_,(ae (aq (i:=1) iS.nd rfl (Or.inl rfl) (aw (ab (bG T.f_line_of G_line_of (hr.mono (by decide)) (ab iJ (ab (aw (ab (am (pv 0) rfl) af)) af))) (ab (bG T.f_line_of G_line_of (hr.mono (by decide)) (ab iJ (ab (aw (ab (am (pv 0) rfl) af)) af))) af)))) (ae (aV (dz PySem.F.plainAttrs_list PySem.F.slot_list_extend PySem.F.type_list_extend dR (pv 1) (ab (im (own:=[("entry",2)]) rfl iS.nd (bx (am (pv 0) rfl)) (dI rfl) (λs H C cl fp=>(aQ (i:=2) iS.nd rfl (Or.inl rfl))) (λs H C cl fp=>eE) (λs H C cl fp=>(bG T.f_line_of G_line_of (hr.mono (by decide)) (ab (nV K (pv 2) rfl) (ab (nV K (pv 2) rfl) af))))) af))) (ai (ao (bG T.f_bytes_of G_bytes_of (hr.mono (by decide)) (ab (xc iJ (pv 1)) af)))))),?_⟩;walk_at"prep";walk_at"rx";refine aD (lb rfl) (λp hp=>?_);have s1:au H (upd H p (.lst [.int sd])):=(au.refl H).upd_new hp;walk_at"rx";refine⟨"FROM",p,[sd],rfl,ac,pC hsd,by decide +kernel,lb rfl,λH1 s1'=>?_⟩;have s2:=s1.trans s1';have hra1:=s2 _ _ hra;walk_at"rx";refine aD (lb rfl) (λq hq=>?_);have s3:au H (upd H1 q (.lst [.int rc])):=s2.upd_new (s2.none_of hq);walk_at"rx";refine⟨"TO",q,[rc],rfl,ac,pC hrc,by decide +kernel,lb rfl,λH2 s2'=>?_⟩;have s4:=s3.trans s2';walk_at"rx";refine aD (lb rfl) (λla hla=>?_);have hla0:=s4.none_of hla;have s5:au H (upd H2 la (.lst [.str (bT ("FROM",[sd])),.str (bT ("TO",[rc]))])):=s4.upd_new hla0;have hl5:upd H2 la (.lst [.str (bT ("FROM",[sd])),.str (bT ("TO",[rc]))]) la=some (.lst [.str (bT ("FROM",[sd])),.str (bT ("TO",[rc]))]):=ac;generalize upd H2 la (.lst [.str (bT ("FROM",[sd])),.str (bT ("TO",[rc]))])=H3 at *;have hra3:=s5 _ _ hra;have hea3:=s5 _ _ hea;have R3:=R.same s5;walk_at"rx";refine⟨ea,rfl,⟨_,aR.of hea3⟩,λD hD=>?_⟩;refine fM (J:=vo K ea) (n:=es.length) (λj H4=>au H3 H4/\H4 D=some (.lst (((xs.take j).map bT).map V.str)))
   ⟨(au.refl H3).upd_new hD,ac⟩ (λH4 h=>⟨_,aR.of (h.1 _ _ hea3),by rw[length_map];exact Nat.le_refl _⟩) (λj H4 hj h=>⟨_,.ref es[j].1,aR.of (h.1 _ _ hea3),by rw[getElem?_map,List.getElem?_eq_getElem hj];rfl⟩) ?_ ?_
  .rintro j H4 y H5 hj ⟨s6,hd4⟩ ⟨e,hy⟩;subst e;obtain⟨t,ht,rfl⟩:=bb (hy _ (aR.of (s6 _ _ hea3)));obtain⟨x,hx,dx',hx1,hx2⟩:=dj R3.ents ht;obtain⟨o1,o2,o3⟩:=wp (hok x (mem_of_getElem? hx));have hx1':=s6 _ _ hx1;have hx2':LI H5 t.2 x.2:=s6 _ _ hx2;walk_at"rx";refine⟨rfl,?_⟩;walk_at"rx";refine⟨x.1,t.2,x.2,rfl,hx2',o1,o2,o3,λH6 s7=>?_⟩;refine⟨_,s7 _ _ hd4,?_,(s6.trans s7).upd_new hD,?_⟩
   .rw[length_map,length_map,length_take,sizeLine_eq];omega
   .rw[ac,aT hx,map_append,map_append];rfl
  .rintro H4 ⟨s6,hd4⟩;rw[les,take_length]at hd4;have hl4:=s6 _ _ hl5;have nD:D≠la:=λe=>by rw[e,hl5]at hD;cases hD
   walk_at"rx";refine lh hl4 hd4 (by rw[length_map,length_map,sizeLine_eq];show 2+_<=_;omega) ?_;walk_at"rx";refine⟨⟨_,rfl⟩,?_⟩;walk_at"rx";refine⟨"\n",la,bT ("FROM",[sd])::bT ("TO",[rc])::xs.map bT,rfl,rfl,.inl (aR.of (by rw[ac];rfl)),?_,?_⟩
   .have:=pq (k:=50) (l:=(bT ("FROM",[sd])::bT ("TO",[rc])::xs.map bT).map (·.length)) (by
     intro y hy;obtain⟨z,hz,rfl⟩:=mem_map.mp hy;exact j9 hsd hrc hok z hz)
    rw[length_map,length_cons,length_cons,length_map]at this;rw[length_cons,length_cons,length_map];have e:("\n":Str).length=1:=by decide +kernel
    rw[e];omega
   .refine⟨pB sd rc xs,rfl,u7 hsd hrc hok hlen,λH7 p7 s7 hp7 hl7=>?_⟩;have s8:au H (upd H4 la (.lst ([.str (bT ("FROM",[sd])),.str (bT ("TO",[rc]))]++(xs.map bT).map V.str))):=(s5.trans s6).upd_new hla0;exact k H7 p7 (s8.trans s7) (s8.none_of hp7) hl7
def eu (b:Bytes):List Nat:=b.map λc=>c.toNat
theorem lO (a b:Bytes):eu (a++b)=eu a++eu b:=map_append
theorem C4 (b:Bytes):br b=(eu b).map λ(c:Nat)=>(c:Int):=by unfold br eu;rw[map_map];rfl
theorem gf (n:Nat):eu (decimal n)=io n:=by
 have e:(toString n).toList=toDigits 10 n:=by
  first
   |exact Nat.toList_repr
   |simp[toString,Nat.repr]
 unfold eu decimal;rw[e,map_map];unfold io;refine map_congr_left λc hc=>?_;have:=um n c.toNat (mem_map.mpr ⟨c,hc,rfl⟩);show(UInt8.ofNat c.toNat).toNat=c.toNat;rw[UInt8.toNat_ofNat'];exact Nat.mod_eq_of_lt (by omega)
theorem fG:∀l:List Bytes,eu (spaced l)=eZ [32] (l.map eu)
 |[]=>rfl
 |[w]=>rfl
 |w::x::l=>by show eu (w++(32::spaced (x::l)))=eu w++([32]++eZ [32] ((x::l).map eu));rw[lO,<- fG (x::l)];rfl
theorem pD (m:Nat)(p:List Nat):∀l:List (List Nat),eZ [m] (p::l)=p++l.flatMap λq=>m::q
 |[]=>by simp[eZ]
 |q::r=>by show p++([m]++eZ [m] (q::r))=p++((m::q)++r.flatMap λq=>m::q);rw[pD m q r];rfl
theorem rg {α:Type}(f:α->Bytes):∀l:List α,eu (l.flatMap f)=l.flatMap λx=>eu (f x)
 |[]=>rfl
 |x::l=>by show eu (f x++l.flatMap f)=eu (f x)++l.flatMap λx=>eu (f x);rw[lO,rg f l]
theorem y9 (x:Line)(h:d8 (aM x)):eu (lineText x)=tl (bT (aM x)):=by
 rw[pA (wp h).1];cases x with
 |dues a b c=>
  show eu (spaced [chars "DUES",decimal a,decimal b,decimal c])=eZ [32] [tl "DUES",io (a:Int).toNat,io (b:Int).toNat,io (c:Int).toNat];rw[fG];simp only[map_cons,map_nil,gf,toNat_natCast];rw[show eu (chars "DUES")=tl "DUES" by decide +kernel]
 |transit a b=>
  show eu (spaced [chars "TRANSIT",decimal a,decimal b])=eZ [32] [tl "TRANSIT",io (a:Int).toNat,io (b:Int).toNat];rw[fG];simp only[map_cons,map_nil,gf,toNat_natCast];rw[show eu (chars "TRANSIT")=tl "TRANSIT" by decide +kernel]
 |orders a b=>
  show eu (spaced [chars "ORDERS",decimal a,decimal b])=eZ [32] [tl "ORDERS",io (a:Int).toNat,io (b:Int).toNat];rw[fG];simp only[map_cons,map_nil,gf,toNat_natCast];rw[show eu (chars "ORDERS")=tl "ORDERS" by decide +kernel]
theorem rh (nm:Str)(w:String)(e:eu (chars w)=tl nm)(n:Nat)(h:dZ n):eu (spaced [chars w,decimal n])=tl (bT (nm,[(n:Int)])):=by rw[pA (pC h),fG];show eZ [32] [eu (chars w),eu (decimal n)]=eZ [32] [tl nm,io (n:Int).toNat];rw[e,gf,toNat_natCast]
theorem rj (t:Vbpoal.Told)(h1:dZ t.from_)(h2:dZ t.to)(hx:∀x∈t.lines,d8 (aM x)):bq (pB t.from_ t.to (t.lines.map aM))=Vbpoal.bytes (toldText t):=by
 show(tl (pB t.from_ t.to (t.lines.map aM))).map (λ(c:Nat)=>(c:Int))=br (toldText t);rw[C4]
 congr 1
 rw[xP,pD];unfold toldText;rw[lO,rh "FROM" "FROM" (by decide +kernel) _ h1]
 congr 1
 show _=10::eu (spaced [chars "TO",decimal t.to]++t.lines.flatMap λx=>10::lineText x);rw[lO,rh "TO" "TO" (by decide +kernel) _ h2,rg,map_map,List.flatMap_cons];show 10::(tl (bT ("TO",[(t.to:Int)]))++_)=_
 congr 2
 rw[List.flatMap_map];have:∀l:List Line,(∀x∈l,d8 (aM x))->(l.flatMap λa=>10::((λx=>tl (bT x))∘aM) a)=l.flatMap λx=>eu (10::lineText x):=by
  intro l hl
  induction l with
  |nil=>rfl
  |cons x l ih=>
   rw[List.flatMap_cons,List.flatMap_cons,ih λy hy=>hl y (mem_cons_of_mem _ hy)]
   congr 1
   show 10::tl (bT (aM x))=10::eu (lineText x);rw[y9 x (hl x mem_cons_self)]
 exact this t.lines hx
section
variable {K:PySem.W.Frag}{H:Hp}{Q:VK}{D:jj}{σ:St}
theorem fy {l b:Addr}{xs zs:List Int}(hl:LI H l xs)(hb:LI H b zs)(hn:xs.length+zs.length<=5000)(h:∀(H':Hp) (p:Addr),au H H'->H p=none->LI H' p (xs++zs)->Q (.ref p) H'):zR (.ref l) (.ref b) H Q:=⟨l,b,_,_,rfl,rfl,hl,hb,by rw[length_map,length_map,sizeLine_eq];omega,λp hp=>h _ p ((au.refl H).upd_new hp) hp (by show upd _ _ _ _=_;rw[ac,map_append])⟩
theorem sN {q:Addr}{o:HO}(hq:H q=none):au H (upd H q o):=(au.refl H).upd_new hq
theorem LI.same {H H':Hp}{a:Addr}{ns:List Int}(s:au H H')(h:LI H a ns):LI H' a ns:=s _ _ h
end
inductive xQ (vs:List V)(H:Hp)(Q:VK)(E:XK):Prop
 |mk (a:Addr)(ns:List Int)(_:vs=[.ref a])(_:LI H a ns)(_:ns.length<=3000)(_:∀(H':Hp) (p:Addr),au H H'->H p=none->LI H' p ((ns.length:Int)::ns)->Q (.ref p) H')
theorem cM (T:Tx K mg ad fdt):aG P w K mg base bO 1 (ad .as_row) (fdt .as_row) ["numbers"] xQ:=by
 refine T.f_as_row.fn.ok yC (λvs H Q E h=>?_) (λcdv A outer s H vs Q E hr h=>?_)
 .obtain⟨_,_,rfl,_⟩:=h
  rfl
 .obtain⟨a,ns,rfl,ha,hl,k⟩:=h;have ha':H a=some (.lst (ns.map V.int)):=ha;refine⟨_,(ai (ao (aL d9 (aw (ab (aI ax (by rfl) T.n_len boot_len (ab (pv 0) af)) af)) (pv 0)))),?_⟩;walk_at"prep";walk_at"rx";rw[length_map];refine aD (lb rfl) λq hq=>?_;walk_at"rx";exact fy (xs:=[(ns.length:Int)]) ac (LI.same (sN hq) ha) (by rw[show[(ns.length:Int)].length=1 from rfl];omega) λH2 p s2 hp hl2=>k H2 p ((sN hq).trans s2) ((sN hq).none_of hp) hl2
def za (xs:List (Int×Int×Int)):List Int:=xs.flatMap λx=>[x.1,x.2.1,x.2.2]
theorem nZ:∀xs:List (Int×Int×Int),(za xs).length=3*xs.length
 |[]=>rfl
 |x::xs=>by show(x.1::x.2.1::x.2.2::za xs).length=_;rw[length_cons,length_cons,length_cons,length_cons,nZ xs];omega
theorem Bs (xs:List (Int×Int×Int))(x:Int×Int×Int):za (xs++[x])=za xs++[x.1,x.2.1,x.2.2]:=by unfold za;rw[List.flatMap_append];simp
inductive Bt (C:Addr)(vs:List V)(H:Hp)(Q:VK)(E:XK):Prop
 |mk (a:Addr)(as:List Addr)(xs:List (Int×Int×Int))(_:vs=[.ref a])(_:H a=some (.lst (as.map V.ref)))(_:xs.length<=500)(_:Paired (nH C H) as xs)(_:∀(H':Hp) (p:Addr),au H H'->H p=none->LI H' p (za xs)->Q (.ref p) H')
theorem i5 (T:Tx K mg ad fdt):aG P w K mg base bO 1 (ad .in_threes) (fdt .in_threes) ["payments"] (Bt (ad .Payment)):=by
 refine T.f_in_threes.fn.ok iX (λvs H Q E h=>?_) (λcdv A outer s H vs Q E hr h=>?_)
 .obtain⟨_,_,_,rfl,_⟩:=h
  rfl
 .obtain⟨a,as,xs,rfl,ha,hl,hpr,k⟩:=h;have la:as.length=xs.length:=PySem.Paired.length hpr;walk_at"py";refine⟨_,(ae (aq (i:=1) iX.nd rfl (Or.inl rfl) (aw af)) (ae (ci PassesOwn.never rfl (bx (pv 0)) (aQ (i:=2) iX.nd rfl (Or.inl rfl)) (ai (aV (dz PySem.F.plainAttrs_list PySem.F.slot_list_extend PySem.F.type_list_extend dR (pv 1) (ab (aw (ab (am (pv 2) rfl) (ab (am (pv 2) rfl) (ab (am (pv 2) rfl) af)))) af))))) (ai (ao (pv 1))))),?_⟩;walk_at"prep";walk_at"rx";refine aD (by decide) (λq hq=>?_);have s0:au H (upd H q (.lst [])):=(au.refl H).upd_new hq;walk_at"rx";refine⟨a,rfl,⟨_,aR.of (s0 _ _ ha)⟩,?_⟩;refine bX (K:=K) (a:=a) (xs:=as.map V.ref) (λi σ H'=>∃z2:Option V,σ=[some (.ref a),some (.ref q),z2]/\au H H'/\LI H' q (za (xs.take i)))
   ⟨none,rfl,s0,ac⟩ (λi σ H' _ ⟨_,_,s,_⟩=>aR.of (s _ _ ha)) ?_ ?_
  .rintro i y σ H' hi ⟨z2,rfl,s1,hq1⟩;obtain⟨c,hc,rfl⟩:=bb hi;obtain⟨x,hx,⟨dx,hcx⟩⟩:=dj hpr hc;have il:i<xs.length:=(List.getElem?_eq_some_iff.mp hx).1;have hcx1:=s1 _ _ hcx;have hq1':H' q=some (.lst ((za (xs.take i)).map V.int)):=hq1;walk_at"rx";refine aD (lb rfl) λr hr=>?_;have hq2:upd H' r (.lst [.int x.1,.int x.2.1,.int x.2.2]) q=some (.lst ((za (xs.take i)).map V.int)):=sN hr _ _ hq1;walk_at"rx";refine lh hq2 ac (by rw[length_map,nZ,length_take,sizeLine_eq];show _+3<=_;omega) ?_;refine⟨_,rfl,(s1.trans (sN hr)).upd_new hq,?_⟩;show upd _ _ _ _=_;rw[ac,aT hx,Bs,map_append];rfl
  .rintro σ H' ⟨z2,rfl,s1,hq1⟩;rw[length_map,la,take_length]at hq1;walk_at"rx";exact k H' q s1 hq hq1
inductive DX (C:Addr)(vs:List V)(H:Hp)(Q:VK)(E:XK):Prop
 |mk (a:Addr)(as:List Addr)(xs:List (Int×Int×Int))(_:vs=[.ref a])(_:H a=some (.lst (as.map V.ref)))(_:xs.length<=500)(_:Paired (nH C H) as xs)(_:∀(H':Hp),au H H'->Q (.int (xs.map (·.2.2)).sum) H')
theorem rm (T:Tx K mg ad fdt):aG P w K mg base bO 1 (ad .sum_of) (fdt .sum_of) ["payments"] (DX (ad .Payment)):=by
 refine T.f_sum_of.fn.ok mx (λvs H Q E h=>?_) (λcdv A outer s H vs Q E hr h=>?_)
 .obtain⟨_,_,_,rfl,_⟩:=h
  rfl
 .obtain⟨a,as,xs,rfl,ha,hl,hpr,k⟩:=h;have la:as.length=xs.length:=PySem.Paired.length hpr;walk_at"py";refine⟨_,(ai (ao (aI (Ei rfl) (by rfl) T.n_sum PyProof.Rows.boot_sum (ab (im (own:=[("payment",1)]) rfl mx.nd (bx (pv 0)) (dI rfl) (λs H C cl fp=>(aQ (i:=1) mx.nd rfl (Or.inl rfl))) (λs H C cl fp=>eE) (λs H C cl fp=>(nV K (pv 1) rfl))) af)))),?_⟩;walk_at"prep";walk_at"rx";refine⟨a,rfl,⟨_,aR.of ha⟩,λD hD=>?_⟩;refine fM (J:=vo K a) (n:=as.length) (λj H2=>au H H2/\LI H2 D ((xs.take j).map (·.2.2)))
   ⟨(au.refl H).upd_new hD,ac⟩ (λH2 h=>⟨_,aR.of (h.1 _ _ ha),by rw[length_map];exact Nat.le_refl _⟩) (λj H2 hj h=>⟨_,.ref as[j],aR.of (h.1 _ _ ha),by rw[getElem?_map,List.getElem?_eq_getElem hj];rfl⟩) ?_ ?_
  .rintro j H2 y H3 hj ⟨s2,hd2⟩ ⟨e,hy⟩;subst e;obtain⟨c,hc,rfl⟩:=bb (hy _ (aR.of (s2 _ _ ha)));obtain⟨x,hx,⟨dx,hcx⟩⟩:=dj hpr hc;have hcx1:=s2 _ _ hcx;walk_at"rx";refine⟨rfl,?_⟩;walk_at"rx";refine⟨_,hd2,?_,s2.upd_new hD,?_⟩
   .rw[length_map,length_map,length_take,sizeLine_eq];omega
   .show upd _ _ _ _=_;rw[ac,aT hx,map_append,map_append];rfl
  .rintro H2 ⟨s2,hd2⟩;rw[la,take_length]at hd2;exact⟨D,_,rfl,aR.of hd2,k H2 s2⟩
inductive EQ (K:PySem.W.Frag)(CR CE:Addr)(vs:List V)(H:Hp)(Q:VK)(E:XK):Prop
 |mk (ta ra ea:Addr)(ns:List Int)(wl sd rc:Int)(es:List (Addr×Addr))(xs:List i3)(_:vs=[.ref ta,.ref ra])(_:LI H ta ns)(_:kO CR CE H ra ea wl sd rc es xs)(_:Q (.int (if 1000<ns.length then -1 else if 0<wl then -1000-wl else 0)) H)
theorem xR (T:Tx K mg ad fdt):aG P w K mg base bO 1 (ad .refusal_of_text) (fdt .refusal_of_text) ["text","reading"] (EQ K (ad .Reading) (ad .Entry)):=by
 refine T.f_refusal_of_text.fn.ok kN (λvs H Q E h=>?_) (λcdv A outer s H vs Q E hr h=>?_)
 .obtain⟨_,_,_,_,_,_,_,_,_,rfl,_⟩:=h
  rfl
 .obtain⟨ta,ra,ea,ns,wl,sd,rc,es,xs,rfl,ht,R,k⟩:=h;have ht':H ta=some (.lst (ns.map V.int)):=ht;obtain⟨dx,hra⟩:=R.obj;have kR:=T.k_Reading;have n1:=T.n_Reading_wrong_line;refine⟨_,(ae (bg (ay fP (aI ax (by rfl) T.n_len boot_len (ab (pv 0) af)) (aS T.g_MOST_BYTES) (aB _)) (ai (ao (aS T.g_OUT_OF_RANGE))) aE) (ae (bg (ay fP (am (pv 1) rfl) al (aB _)) (ai (ao (aL d5 (aS T.g_WRONG_LINE) (am (pv 1) rfl)))) aE) (ai (ao al)))),?_⟩;walk_at"prep";walk_at"rx";rw[length_map];refine aY (λh1=>?_) (λh1=>?_)
  .rw[if_pos (by omega)]at k;walk_at"rx";exact k
  .rw[if_neg (by omega)]at k;walk_at"rx";refine aY (λh2=>?_) (λh2=>?_)
   .rw[if_pos h2]at k;walk_at"rx";exact k
   .rw[if_neg h2]at k;walk_at"rx";exact k
def fH (s:Vbpoal.State)(n:Int):Int:=if inside n 1 100=false then -1 else match s.statements[n.toNat-1]? with
 |none=>-4
 |some _=>0
def jP (s:Vbpoal.State)(n:Int)(st:Nat):Int:=if inside n 1 100=false then -1 else match s.statements[n.toNat-1]? with
 |none=>-4
 |some x=>if x.state≠st then -6 else 0
inductive C5 (ad:Fn->Addr)(vs:List V)(H:Hp)(Q:VK)(E:XK):Prop
 |mk (B:BA)(s:Vbpoal.State)(n:Int)(_:vs=[.ref B.b,.int n])(_:aA ad H B s)(_:Q (.int (fH s n)) H)
theorem az {n a b:Int}:inside n a b=true↔a<=n/\n<=b:=by unfold inside;rw[and_eq_true,decide_eq_true_eq,decide_eq_true_eq]
theorem bv {n a b:Int}(h:¬(a<=n/\n<=b)):inside n a b=false:=by
 cases e:inside n a b with
 |false=>rfl
 |true=>exact absurd (az.mp e) h
theorem u9 (T:Tx K mg ad fdt):aG P w K mg base bO 1 (ad .refusal_unless_statement) (fdt .refusal_unless_statement) ["book","number"] (C5 ad):=by
 refine T.f_refusal_unless_statement.fn.ok gd (λvs H Q E h=>?_) (λcdv A outer s H vs Q E hr h=>?_)
 .obtain⟨_,_,_,rfl,_⟩:=h
  rfl
 .obtain⟨B,st,n,rfl,hB,k⟩:=h;obtain⟨dx,hb⟩:=hB.bk;have hsl:=hB.sl;have ls:=hB.len_ss;walk_at"bk";refine⟨_,(ae (bg (dF (eD dw dw al (pv 1) (aS T.g_MOST_STATEMENTS))) (ai (ao (aS T.g_OUT_OF_RANGE))) aE) (ae (bg (ay fP (pv 1) (aI ax (by rfl) T.n_len boot_len (ab (am (pv 0) rfl) af)) (aB _)) (ai (ao (aS T.g_NOT_THERE))) aE) (ai (ao al)))),?_⟩;walk_at"prep";walk_at"rx";refine aY (λh1=>?_) (λh1=>?_)
  .walk_at"rx";refine dv (λh2=>?_) (λh2=>?_)
   .unfold fH at k;rw[if_pos (bv (by omega))]at k;walk_at"rx";exact k
   .unfold fH at k;rw[if_neg (by rw[az.mpr ⟨h1,h2⟩];decide)]at k;walk_at"rx";rw[length_map,ls];refine aY (λh1=>?_) (λh1=>?_)
    .rw[List.getElem?_eq_none (by omega)]at k;walk_at"rx";exact k
    .rw[List.getElem?_eq_getElem (show n.toNat-1<st.statements.length by omega)]at k;walk_at"rx";exact k
  .unfold fH at k;rw[if_pos (bv (by omega))]at k;walk_at"rx";exact k
theorem pE {s:Vbpoal.State}{n:Int}(h:fH s n=0):∃x,(1<=n/\n<=100)/\s.statements[n.toNat-1]?=some x:=by
 unfold fH at h;by_cases q:1<=n/\n<=100
 .rw[if_neg (by rw[az.mpr q];decide)]at h;cases e:s.statements[n.toNat-1]? with
  |none=>rw[e]at h;exact absurd h (by decide)
  |some x=>exact⟨x,q,rfl⟩
 .rw[if_pos (bv q)]at h;exact absurd h (by decide)
theorem Bu {s:Vbpoal.State}{n:Int}{st:Nat}(h:fH s n≠0):jP s n st=fH s n:=by
 unfold fH jP at *;by_cases q:1<=n/\n<=100
 .rw[if_neg (by rw[az.mpr q];decide)]at h ⊢;rw[if_neg (by rw[az.mpr q];decide)];cases e:s.statements[n.toNat-1]? with
  |none=>rfl
  |some x=>rw[e]at h;exact absurd rfl h
 .rw[if_pos (bv q),if_pos (bv q)]
theorem C6 {s:Vbpoal.State}{n:Int}{st:Nat}{x:Vbpoal.Statement}(h:1<=n/\n<=100)(e:s.statements[n.toNat-1]?=some x):jP s n st=if x.state≠st then -6 else 0:=by unfold jP;rw[if_neg (by rw[az.mpr h];decide),e]
theorem zb {s:Vbpoal.State}{n:Int}(h:fH s n≠0):fH s n<0:=by
 unfold fH at *;by_cases q:1<=n/\n<=100
 .rw[if_neg (by rw[az.mpr q];decide)]at h ⊢;cases e:s.statements[n.toNat-1]? with
  |none=>decide
  |some x=>rw[e]at h;exact absurd rfl h
 .rw[if_pos (bv q)];decide
inductive C7 (ad:Fn->Addr)(vs:List V)(H:Hp)(Q:VK)(E:XK):Prop
 |mk (B:BA)(s:Vbpoal.State)(n:Int)(st:Nat)(_:vs=[.ref B.b,.int n,.int st])(_:aA ad H B s)(_:Q (.int (jP s n st)) H)
theorem pF (T:Tx K mg ad fdt):aG P w K mg base bO 2 (ad .refusal_unless_in_state) (fdt .refusal_unless_in_state) ["book","number","state"] (C7 ad):=by
 have G_refusal_unless_statement:=u9 (P:=P) (w:=w) (base:=base) T;have G_Book_find_statement:=cQ (P:=P) (w:=w) (base:=base) T;refine T.f_refusal_unless_in_state.fn.ok dL (λvs H Q E h=>?_) (λcdv A outer s H vs Q E hr h=>?_)
 .obtain⟨_,_,_,_,rfl,_⟩:=h
  rfl
 .obtain⟨B,st,n,z,rfl,hB,k⟩:=h;obtain⟨dx,hb⟩:=hB.bk;walk_at"bk";walk_at"st";refine⟨_,(ae (aq (i:=3) dL.nd rfl (Or.inl rfl) (bG T.f_refusal_unless_statement G_refusal_unless_statement (hr.mono (by decide)) (ab (pv 0) (ab (pv 1) af)))) (ae (bg (PW.pt (eC (ay dH (pv 3) al (aB _)) (dQ (ay jt (am (cj (pv 0) T.k_Book T.m_Book_find_statement G_Book_find_statement (hr.mono (by decide)) (ab (pv 1) af)) rfl) (pv 2) (aB _))))) (ai (ao (aS T.g_NOT_NOW))) aE) (ai (ao (pv 3))))),?_⟩;walk_at"prep";walk_at"rx";refine⟨B,st,n,rfl,hB,?_⟩;walk_at"rx";refine aY (λh1=>?_) (λh1=>?_)
  .obtain⟨x,hn,hx⟩:=pE h1;have hi:n.toNat-1<B.ss.length:=by have:=(List.getElem?_eq_some_iff.mp hx).1;have:=hB.len_ss;omega
   obtain⟨x',hx',⟨dx',hax⟩⟩:=dj hB.sp (List.getElem?_eq_getElem hi);rw[hx]at hx';cases hx';rw[C6 hn hx]at k;walk_at"rx";refine⟨B,st,n.toNat,B.ss[n.toNat-1],by rw[toNat_of_nonneg (by omega)],hB,by omega,List.getElem?_eq_getElem hi,?_⟩;walk_at"rx";refine dv (λh2=>?_) (λh2=>?_)
   .rw[if_pos (λq=>h2 (by rw[q]))]at k;walk_at"rx";exact k
   .rw[if_neg (λq=>q (by omega))]at k;walk_at"rx";rw[h1];exact k
  .refine jz ?_;rw[Bu h1]at k;walk_at"rx";exact k
def jQ (rt:Int->Option Int)(xs:List i3):Bool:=xs.any λx=>decide (x.1 = "ORDERS")&&!(rt (qQ x.2 0)).isSome
inductive C8 (ad:Fn->Addr)(vs:List V)(H:Hp)(Q:VK)(E:XK):Prop
 |mk (B:BA)(s:Vbpoal.State)(el:Addr)(es:List (Addr×Addr))(xs:List i3)(_:vs=[.ref B.b,.ref el])(_:aA ad H B s)(_:H el=some (.lst (es.map λe=>.ref e.1)))(_:Paired (oZ (ad .Entry) H) es xs)(_:(∀x∈xs,d8 x))(_:Q (.bl (jQ (dD s) xs)) H)
theorem Bv {xs:List i3}{rt:Int->Option Int}{i:Nat}{x:i3}(h:xs[i]?=some x):jQ rt (xs.take (i+1))=(jQ rt (xs.take i)||(decide (x.1 = "ORDERS")&&!(rt (qQ x.2 0)).isSome)):=by unfold jQ;rw[aT h,List.any_append];simp
theorem Bw {xs:List i3}{rt:Int->Option Int}{i:Nat}{x:i3}(h:xs[i]?=some x)(q:(decide (x.1 = "ORDERS")&&!(rt (qQ x.2 0)).isSome)=true):jQ rt xs=true:=List.any_eq_true.mpr ⟨x,mem_of_getElem? h,q⟩
theorem Bx (T:Tx K mg ad fdt):aG P w K mg base bO 1 (ad .lacks_money_rate) (fdt .lacks_money_rate) ["book","entries"] (C8 ad):=by
 refine T.f_lacks_money_rate.fn.ok fU (λvs H Q E h=>?_) (λcdv A outer s H vs Q E hr h=>?_)
 .obtain⟨_,_,_,_,_,rfl,_⟩:=h
  rfl
 .obtain⟨B,st,el,es,xs,rfl,hB,hel,hpr,hok,k⟩:=h;obtain⟨dx,hb⟩:=hB.bk;obtain⟨kvs,hma,_,hkv⟩:=hB.mo;have les:es.length=xs.length:=PySem.Paired.length hpr;have hu:=kq hr;have kE:=T.k_Entry;have n5:=T.n_Entry_name;have n6:=T.n_Entry_numbers;walk_at"bk";refine⟨_,(ae (ci PassesOwn.never rfl (bx (pv 1)) (aQ (i:=2) fU.nd rfl (Or.inl rfl)) (ai (bg (PW.pt (eC (ay dH (am (pv 2) rfl) iJ (aB _)) (dQ (D6 (yk hu (bf aJ (am (pv 2) rfl) al (λ_ _=>rfl)) (am (pv 0) rfl)))))) (ai (ao qr)) aE))) (ai (ao qr))),?_⟩;walk_at"prep";walk_at"rx";refine⟨el,rfl,⟨_,aR.of hel⟩,?_⟩;refine bX (K:=K) (a:=el) (xs:=es.map λe=>V.ref e.1) (λi σ H'=>∃z2:Option V,σ=[some (.ref B.b),some (.ref el),z2]/\H'=H/\jQ (dD st) (xs.take i)=false)
   ⟨none,rfl,rfl,rfl⟩ (λi σ H' _ ⟨_,_,e,_⟩=>by rw[e];exact aR.of hel) ?_ ?_
  .rintro i y σ H' hi ⟨z2,rfl,rfl,hf⟩;obtain⟨c,hc,rfl⟩:=bb hi;obtain⟨x,hx,dx',hx1,hx2⟩:=dj hpr hc;have tk:=Bv (rt:=dD st) hx;have xk:=hok x (mem_of_getElem? hx);rw[hf,Bool.false_or]at tk;walk_at"rx";refine aY (λh1=>?_) (λh1=>?_)
   .have h0:x.2[0]?=some (qQ x.2 0):=by cases xk<;>rfl
    walk_at"rx";refine bw (aR.of hx2) (fg (j:=0) h0) ?_;walk_at"rx";refine⟨B.ma,_,rfl,dq.k (k:=Sum.inl (qQ x.2 0)) hma,?_⟩;rw[hkv];have h1':x.1 = "ORDERS":=h1;rw[decide_eq_true h1',Bool.true_and]at tk;have e:(Option.map V.int (dD st (qQ x.2 0))).isSome=(dD st (qQ x.2 0)).isSome:=by cases dD st (qQ x.2 0)<;>rfl
    rw[e];cases q:(dD st (qQ x.2 0)).isSome with
    |false=>
     walk_at"rx";rw[Bw hx (by rw[decide_eq_true h1',q];rfl)]at k;exact k
    |true=>
     walk_at"rx";rw[q]at tk;exact⟨_,rfl,rfl,tk⟩
   .refine jz ?_;rw[decide_eq_false h1,Bool.false_and]at tk;exact⟨_,rfl,rfl,tk⟩
  .rintro σ H' ⟨z2,rfl,rfl,hf⟩;rw[length_map,les,take_length]at hf;walk_at"rx";rw[hf]at k;exact k
def va (s:Vbpoal.State)(x:Int×Int×Int):Bool:=isHouse s x.1&&(isHouse s x.2.1&&(x.1 != x.2.1&&inside x.2.2 1 1000000000000000))
inductive ER (ad:Fn->Addr)(vs:List V)(H:Hp)(Q:VK)(E:XK):Prop
 |mk (B:BA)(s:Vbpoal.State)(a:Addr)(x:Int×Int×Int)(_:vs=[.ref B.b,.ref a])(_:aA ad H B s)(_:nH (ad .Payment) H a x)(_:Q (.bl (va s x)) H)
theorem ES (T:Tx K mg ad fdt):aG P w K mg base bO 2 (ad .can_be_judged) (fdt .can_be_judged) ["book","payment"] (ER ad):=by
 have G_Book_has_house:=dW (P:=P) (w:=w) (base:=base) T;refine T.f_can_be_judged.fn.ok mw (λvs H Q E h=>?_) (λcdv A outer s H vs Q E hr h=>?_)
 .obtain⟨_,_,_,_,rfl,_⟩:=h
  rfl
 .obtain⟨B,st,a,x,rfl,hB,⟨dxp,ha⟩,k⟩:=h;obtain⟨dx,hb⟩:=hB.bk;walk_at"bk";walk_at"py";unfold va at k;refine⟨_,(ae (bg (dF (PW.pt (eC (d4 (cj (pv 0) T.k_Book T.m_Book_has_house G_Book_has_house (hr.mono (by decide)) (ab (am (pv 1) rfl) af))) (dQ (d4 (cj (pv 0) T.k_Book T.m_Book_has_house G_Book_has_house (hr.mono (by decide)) (ab (am (pv 1) rfl) af))))))) (ai (ao qr)) aE) (ai (ao (vB (gL jt (am (pv 1) rfl) (am (pv 1) rfl) (aB _)) (vA (tS dw dw al (am (pv 1) rfl) (aS T.g_MOST_JUDGED_AMOUNT))))))),?_⟩;walk_at"prep";walk_at"rx";refine⟨B,st,x.1,rfl,hB,?_⟩;cases e1:isHouse st x.1 with
  |false=>
   rw[e1]at k;walk_at"rx";exact k
  |true=>
   rw[e1,Bool.true_and]at k;walk_at"rx";refine⟨B,st,x.2.1,rfl,hB,?_⟩;cases e2:isHouse st x.2.1 with
   |false=>
    rw[e2]at k;walk_at"rx";exact k
   |true=>
    rw[e2,Bool.true_and]at k;walk_at"rx";refine dv (λh1=>?_) (λh1=>?_)
    .rw[show(x.1 != x.2.1)=true by simpa using h1,Bool.true_and]at k;unfold inside at k;walk_at"rx";refine aY (λh2=>?_) (λh2=>?_)
     .rw[decide_eq_true h2,Bool.true_and]at k;walk_at"rx";exact k
     .rw[decide_eq_false h2,Bool.false_and]at k;exact k
    .rw[show(x.1 != x.2.1)=false by simpa using h1,Bool.false_and]at k;exact k
structure Hn (tp:Addr)(H:Hp)(B:BA)(H':Hp)(B':BA):Prop where
 keep:∀a o,H a=some o->¬B.F a->a≠tp->H' a=some o
 new:∀a,B'.F a->B.F a\/H a=none
def zc (ad:Fn->Addr)(tp:Addr)(H:Hp)(B:BA)(s':Vbpoal.State)(ans:List Int)(Q:VK):Prop:=∀(H':Hp) (B':BA) (la:Addr),aA ad H' B' s'->Hn tp H B H' B'->B'.b=B.b->fx tp H'->H la=none->LI H' la ans->Q (.ref la) H'
def eX (ad:Fn->Addr)(H:Hp)(B:BA)(s':Vbpoal.State)(ans:List Int)(Q:VK):Prop:=∀(H':Hp) (B':BA) (la:Addr),aA ad H' B' s'->Fr H B H' B'->B'.b=B.b->H la=none->LI H' la ans->Q (.ref la) H'
def pG (H:Hp)(aa:Addr)(nums:List Int)(rows:List (List Int)):Prop:=∃rs:List Addr,H aa=some (.lst (nums.map V.int++rs.map V.ref))/\Paired (LI H) rs rows
theorem aA.kind {H:Hp}{B:BA}{s:Vbpoal.State}(h:aA ad H B s){a:Addr}(f:B.F a):(∃C d fs,H a=some (.ins C d fs))\/(∃xs,H a=some (.lst xs))\/∃kvs,H a=some (.dK kvs):=by
 obtain⟨⟨d,a1⟩,a2,a3,⟨kvs,a4,a5⟩,a6,a7,a8,a9,a10,a11⟩:=h;rcases f with f|f|f|f|f|f
 .exact .inl ⟨_,_,_,by rw[f];exact a1⟩
 .exact .inr (.inl ⟨_,by rw[f];exact a2⟩)
 .exact .inr (.inr ⟨_,by rw[f];exact a4⟩)
 .exact .inr (.inl ⟨_,by rw[f];exact a6⟩)
 .exact .inr (.inl ⟨_,by rw[f];exact a9⟩)
 .obtain⟨o,e⟩:∃o:Addr×Vbpoal.Statement,H a=some (.ins (ad .Statement) o.1 (nG o.2)):=by
   have:∀{as:List Addr} {bs:List Vbpoal.Statement},Paired (yP (ad .Statement) H) as bs->a∈as->∃o:Addr×Vbpoal.Statement,H a=some (.ins (ad .Statement) o.1 (nG o.2)):=by
    intro as bs p
    induction p with
    |nil=>intro q;cases q
    |cons r _ ih=>
     intro q;rcases mem_cons.mp q with e|e
     .obtain⟨d,e'⟩:=r;rw[e];exact⟨(d,_),e'⟩
     .exact ih e
   exact this a7 f
  exact .inl ⟨_,_,_,e⟩
theorem aA.not_tbl {H:Hp}{B:BA}{s:Vbpoal.State}(h:aA ad H B s){a:Addr}{u:HO}(e:H a=some u)(hu:(∃ps,u = .tbl ps)\/∃o v,u = .frz o v):¬B.F a:=λf=>by rcases h.kind f with⟨C,d,fs,q⟩|⟨xs,q⟩|⟨kvs,q⟩<;>rw[q]at e<;>rcases hu with⟨ps,rfl⟩|⟨o,v,rfl⟩<;>cases e
theorem fx.fr {H H':Hp}{B B':BA}{s:Vbpoal.State}(t:fx tp H)(h:aA ad H B s)(f:Fr H B H' B'):fx tp H':=by
 rcases t with e|⟨c',e,o,vs,tk,e1,e2⟩
 .exact .inl (f.keep _ _ e (h.not_tbl e (.inl ⟨_,rfl⟩)))
 .exact .inr ⟨c',f.keep _ _ e (h.not_tbl e (.inl ⟨_,rfl⟩)),o,vs,tk,f.keep _ _ e1 (h.not_tbl e1 (.inr ⟨_,_,rfl⟩)),e2⟩
theorem zc.plain {H:Hp}{B:BA}{s s':Vbpoal.State}{ans:List Int}{Q:VK}(k:zc ad tp H B s' ans Q)(h:aA ad H B s)(t:fx tp H):eX ad H B s' ans Q:=λH' B' la hB f e n l=>k H' B' la hB ⟨λa o q nf _=>f.keep a o q nf,f.new⟩ e (t.fr h f) n l
theorem eX.same {H H':Hp}{B:BA}{s:Vbpoal.State}{ans:List Int}{Q:VK}{la:Addr}(r:eX ad H B s ans Q)(h:aA ad H B s)(e:au H H')(n:H la=none)(l:LI H' la ans):Q (.ref la) H':=r H' B la (h.same e) (Fr.same e) rfl n l
theorem eX.one {H:Hp}{B:BA}{s:Vbpoal.State}{x:Int}{Q:VK}(r:eX ad H B s [x] Q)(h:aA ad H B s):∀(H1:Hp) (p:Addr),au H H1->H1 p=none->Q (.ref p) (upd H1 p (.lst [.int x])):=λH1 p s1 hp=>r.same h (s1.upd_new (s1.none_of hp)) (s1.none_of hp) ac
inductive n8 (ad:Fn->Addr)(tp:Addr)(p:Int)(vs:List V)(H:Hp)(Q:VK)(E:XK):Prop
 |mk (B:BA)(s:Vbpoal.State)(aa:Addr)(nums:List Int)(rows:List (List Int))(_:vs=[.ref B.b,.ref aa])(_:aA ad H B s)(_:Wf s)(_:fx tp H)(_:pG H aa nums rows)(_:VbpoalNeutral.asked1 ((p::nums)::rows)=true)(_:zc ad tp H B (VbpoalNeutral.step s ((p::nums)::rows)).1 (VbpoalNeutral.step s ((p::nums)::rows)).2 Q)
theorem n8.two {ad:Fn->Addr}{tp:Addr}{p:Int}{vs:List V}{H:Hp}{Q:VK}{E:XK}(h:n8 ad tp p vs H Q E):vs.length=2:=by
 obtain⟨_,_,_,_,_,rfl,_⟩:=h
 rfl
theorem pG.nums {H:Hp}{aa:Addr}{nums:List Int}(h:pG H aa nums []):LI H aa nums:=by obtain⟨rs,h1,h2⟩:=h;cases h2;rw[map_nil,append_nil]at h1;exact h1
theorem pG.row {H:Hp}{aa:Addr}{r:List Int}(h:pG H aa [] [r]):∃ra,H aa=some (.lst [.ref ra])/\LI H ra r:=by
 obtain⟨rs,h1,h2⟩:=h;cases h2 with
 |cons a t=>
  cases t;exact⟨_,h1,a⟩
section
open VbpoalNeutral
theorem jR {p:Int}{nums:List Int}{rows:List (List Int)}(hp:p=0\/p=3\/p=5\/p=7\/p=8\/p=9\/p=11\/p=17)(h:asked1 ((p::nums)::rows)=true):∃n,nums=[n]/\rows=[]:=by rcases nums with _|⟨a,_|⟨b,t⟩⟩<;>rcases rows with _|⟨r,u⟩<;>rcases hp with rfl|rfl|rfl|rfl|rfl|rfl|rfl|rfl<;>first|exact⟨_,rfl,rfl⟩|exact(Bool.false_ne_true h).elim
theorem sR {p:Int}{nums:List Int}{rows:List (List Int)}(hp:p=12\/p=14\/p=18\/p=19)(h:asked1 ((p::nums)::rows)=true):nums=[]/\rows=[]:=by rcases nums with _|⟨a,t⟩<;>rcases rows with _|⟨r,u⟩<;>rcases hp with rfl|rfl|rfl|rfl<;>first|exact⟨rfl,rfl⟩|exact(Bool.false_ne_true h).elim
theorem wr {p:Int}{nums:List Int}{rows:List (List Int)}(hp:p=2\/p=6\/p=10)(h:asked1 ((p::nums)::rows)=true):∃n m,nums=[n,m]/\rows=[]:=by rcases nums with _|⟨a,_|⟨b,_|⟨c,t⟩⟩⟩<;>rcases rows with _|⟨r,u⟩<;>rcases hp with rfl|rfl|rfl<;>first|exact⟨_,_,rfl,rfl⟩|exact(Bool.false_ne_true h).elim
theorem ET {nums:List Int}{rows:List (List Int)}(h:asked1 ((13::nums)::rows)=true):∃n m k,nums=[n,m,k]/\rows=[]:=by rcases nums with _|⟨a,_|⟨b,_|⟨c,_|⟨d,t⟩⟩⟩⟩<;>rcases rows with _|⟨r,u⟩<;>first|exact⟨_,_,_,rfl,rfl⟩|exact(Bool.false_ne_true h).elim
theorem EU {nums:List Int}{rows:List (List Int)}(h:asked1 ((1::nums)::rows)=true):∃n m k l,nums=[n,m,k,l]/\rows=[]:=by rcases nums with _|⟨a,_|⟨b,_|⟨c,_|⟨d,_|⟨e,t⟩⟩⟩⟩⟩<;>rcases rows with _|⟨r,u⟩<;>first|exact⟨_,_,_,_,rfl,rfl⟩|exact(Bool.false_ne_true h).elim
theorem wt {p:Int}{nums:List Int}{rows:List (List Int)}(hp:p=4\/p=15\/p=16)(h:asked1 ((p::nums)::rows)=true):∃r,nums=[]/\rows=[r]:=by rcases nums with _|⟨a,t⟩<;>rcases rows with _|⟨r,_|⟨r',u⟩⟩<;>rcases hp with rfl|rfl|rfl<;>first|exact⟨_,rfl,rfl⟩|exact(Bool.false_ne_true h).elim
end
theorem GY {B:BA}:B.F B.b:=.inl rfl
theorem By (T:Tx K mg ad fdt):aG P w K mg base bO 8 (ad .begin) (fdt .begin) ["book","arguments"] (n8 ad tp 0):=by
 have G_Book_start_anew:=kD (P:=P) (w:=w) (base:=base) T;refine T.f_begin.fn.ok uA (λvs H Q E h=>h.two) (λcdv A outer s H vs Q E hr h=>?_);obtain⟨B,st,aa,nums,rows,rfl,hB,wf,tab,ha,hask,k⟩:=h;obtain⟨n,rfl,rfl⟩:=jR (.inl rfl) hask;have k:=k.plain hB tab;have k:eX ad H B (Vbpoal.step st (.begin n)).1 (flat (Vbpoal.step st (.begin n)).2) Q:=k;have la:=ha.nums;obtain⟨dx,hb⟩:=hB.bk;walk_at"bk";refine⟨_,(ae (aq (i:=2) uA.nd rfl (Or.inl rfl) (bf aJ (pv 1) al (λ_ _=>rfl))) (ae (bg (dF (eD dw dw (aS T.g_FEWEST_HOUSES) (pv 2) (aS T.g_MOST_HOUSES))) (ai (ao (aw (ab (aS T.g_OUT_OF_RANGE) af)))) aE) (ae (aV (cj (pv 0) T.k_Book T.m_Book_start_anew G_Book_start_anew (hr.mono (by decide)) (ab (pv 2) af))) (ai (ao (aw (ab al af))))))),?_⟩;walk_at"prep";walk_at"rx";refine bw (aR.of la) (aO (j:=0) rfl) ?_;have no1:¬(2<=n/\n<=10)->∀p,H p=none->Q (.ref p) (upd H p (.lst [.int (-1)])):=λh p hp=>by have e:Vbpoal.step st (.begin n)=Vbpoal.no st 1:=if_pos (bv h);rw[e]at k;exact k.one hB H p (au.refl H) hp
 walk_at"rx";refine aY (λh1=>?_) (λh1=>?_)
 .walk_at"rx";refine dv (λh2=>?_) (λh2=>?_)
  .walk_at"rx";exact aD (lb rfl) (no1 (by omega))
  .have e:Vbpoal.step st (.begin n)=yes (EN n.toNat) 0 []:=if_neg (by rw[az.mpr ⟨h1,h2⟩];decide);rw[e]at k;walk_at"rx";refine⟨B.b,dx,_,n.toNat,by rw[toNat_of_nonneg (by omega)],.inr ⟨_,_,_,_,_,_,rfl⟩,hb,by omega,λH1 B1 e1 hB1 kp nw=>?_⟩;walk_at"rx";refine aD (lb rfl) λp hp=>?_;have hp0:H p=none:=by
    cases q:H p with
    |none=>rfl
    |some o=>
     by_cases z:p=B.b
     .obtain⟨d1,b1⟩:=hB1.bk;rw[e1]at b1;rw[z,b1]at hp;cases hp
     .rw[kp p o q z]at hp;cases hp
   refine k _ B1 p (hB1.same (sN hp)) ⟨λa o q nf=>sN hp _ _ (kp a o q λz=>nf (z▸GY)),λa f=>?_⟩ e1 hp0 ac;rcases nw a f with z|z
   .rw[z];exact .inl GY
   .exact .inr z
 .walk_at"rx";exact aD (lb rfl) (no1 (by omega))
theorem xS {α β:Type}{R:α->β->Prop}{a:α}{b:β}(h:R a b):∀{as:List α} {bs:List β} (i:Nat),Paired R as bs->Paired R (as.set i a) (bs.set i b)
 |_,_,_,.nil=>.nil
 |_::_,_::_,0,.cons r t=>.cons h t
 |_::_,_::_,i+1,.cons r t=>.cons r (xS h i t)
theorem aA.set_rates {H:Hp}{B:BA}{s:Vbpoal.State}{i:Nat}{a:Addr}{hs:House}(h:aA ad H B s)(ha:fu (ad .Rates) H a (jM hs)) :
  aA ad (upd H B.ra (.lst ((B.rs.set i a).map V.ref))) { B with rs:=B.rs.set i a } { s with houses:=s.houses.set i hs }:=by
 obtain⟨⟨d,a1⟩,a2,a3,⟨kvs,a4,a5⟩,a6,a7,a8,a9,a10,a11⟩:=h;have kp:∀{c:Addr} {v:Int×Int×Int},fu (ad .Rates) H c v->fu (ad .Rates) (upd H B.ra (.lst ((B.rs.set i a).map V.ref))) c v:=λ{c v} ⟨d',q⟩=>⟨d',by rw[ah (aP q a2 (by intro z;cases z))];exact q⟩
 refine⟨⟨d,?_⟩,ac,?_,⟨kvs,?_,a5⟩,?_,aK a7 λc _ v ⟨d',q⟩=>⟨d',?_⟩,a8,?_,aK a10 λc _ v ⟨d',q⟩=>⟨d',?_⟩,a11⟩
 .show upd _ _ _ _=some (HO.ins _ _ (zp s.day ((s.houses.set i hs).length) _ _ _ _));rw[length_set,ah (aP a1 a2 (by intro z;cases z))];exact a1
 .show Paired _ (B.rs.set i a) ((s.houses.set i hs).map jM);rw[List.map_set (f:=jM)];exact xS (kp ha) i (aK a3 λc _ v q=>kp q)
 .show upd _ _ _ _=_;rw[ah (aP a4 a2 (by intro z;cases z))];exact a4
 .show upd _ _ _ _=_;rw[ah (Ne.symm a11.1)];exact a6
 .rw[ah (aP q a2 (by intro z;cases z))];exact q
 .show upd _ _ _ _=_;rw[ah (Ne.symm a11.2.1)];exact a9
 .rw[ah (aP q a2 (by intro z;cases z))];exact q
theorem pH (s:Vbpoal.State)(h a b c:Int):Vbpoal.step s (.rates h a b c)=if inside a 0 1000000=false\/inside b 0 1000000=false\/inside c 0 1000000=false then Vbpoal.no s 1 else if isHouse s h=false then Vbpoal.no s 4
   else yes { s with houses:=s.houses.set (h.toNat-1) ⟨a.toNat,b.toNat,c.toNat⟩ } 0 []:=rfl
theorem sS (T:Tx K mg ad fdt):aG P w K mg base bO 8 (ad .set_rates) (fdt .set_rates) ["book","arguments"] (n8 ad tp 1):=by
 have G_Rates___init__:=kz (P:=P) (w:=w) (mg:=mg) (base:=base) T.i_Rates T.tra;have G_Book_has_house:=dW (P:=P) (w:=w) (base:=base) T;have G_Book_give_rates:=qb (P:=P) (w:=w) (base:=base) T;refine T.f_set_rates.fn.ok gc (λvs H Q E h=>h.two) (λcdv A outer s H vs Q E hr h=>?_);obtain⟨B,st,aa,nums,rows,rfl,hB,wf,tab,ha,hask,k⟩:=h;obtain⟨h,a,b,c,rfl,rfl⟩:=EU hask;have k:=k.plain hB tab;have k:eX ad H B (Vbpoal.step st (.rates h a b c)).1 (flat (Vbpoal.step st (.rates h a b c)).2) Q:=k;rw[pH]at k;have la:=ha.nums;obtain⟨dx,hb⟩:=hB.bk;have kR:=T.k_Rates;have n1:=T.n_Rates_kilogram;have n2:=T.n_Rates_piece;have n3:=T.n_Rates_mile;walk_at"bk";refine⟨_,(ae (aq (i:=2) gc.nd rfl (Or.inl rfl) (bf aJ (pv 1) al (λ_ _=>rfl))) (ae (aq (i:=3) gc.nd rfl (Or.inl rfl) (mS T.c_Rates T.b_Rates G_Rates___init__ (hr.mono (by decide)) (ab (bf aJ (pv 1) al (λ_ _=>rfl)) (ab (bf aJ (pv 1) al (λ_ _=>rfl)) (ab (bf aJ (pv 1) al (λ_ _=>rfl)) af))))) (ae (ci PassesOwn.never rfl (Eb (oM (ab (am (pv 3) rfl) (ab (am (pv 3) rfl) (ab (am (pv 3) rfl) af))))) (aQ (i:=4) gc.nd rfl (Or.inl rfl)) (ai (bg (dF (eD dw dw al (pv 4) (aS T.g_MOST_RATE))) (ai (ao (aw (ab (aS T.g_OUT_OF_RANGE) af)))) aE))) (ae (bg (dF (d4 (cj (pv 0) T.k_Book T.m_Book_has_house G_Book_has_house (hr.mono (by decide)) (ab (pv 2) af)))) (ai (ao (aw (ab (aS T.g_NOT_THERE) af)))) aE) (ae (aV (cj (pv 0) T.k_Book T.m_Book_give_rates G_Book_give_rates (hr.mono (by decide)) (ab (pv 2) (ab (pv 3) af)))) (ai (ao (aw (ab al af))))))))),?_⟩;walk_at"prep";walk_at"rx";refine bw (aR.of la) (aO (j:=0) rfl) ?_;walk_at"rx";refine bw (aR.of la) (aO (j:=1) rfl) ?_;walk_at"rx";refine bw (aR.of la) (aO (j:=2) rfl) ?_;walk_at"rx";refine bw (aR.of la) (aO (j:=3) rfl) ?_;walk_at"rx";intro x dy hx0 hdy0 nxd;refine⟨x,dy,a,b,c,rfl,ac,?_⟩;rw[bH];refine⟨rfl,?_⟩;have s1:au H (upd (upd H dy (.own x)) x (.ins (ad .Rates) dy (zo a b c))):=((au.refl H).upd_new hdy0).upd_new hx0;have hx1:upd (upd H dy (.own x)) x (.ins (ad .Rates) dy (zo a b c)) x=some (.ins (ad .Rates) dy (zo a b c)):=ac;generalize upd (upd H dy (.own x)) x (.ins (ad .Rates) dy (zo a b c))=H1 at *;walk_at"rx";refine aD (lb rfl) λtq htq=>?_;have s2:au H (upd H1 tq (.tup [.int a,.int b,.int c])):=s1.upd_new (s1.none_of htq);have hx2:upd H1 tq (.tup [.int a,.int b,.int c]) x=some (.ins (ad .Rates) dy (zo a b c)):=sN htq _ _ hx1;have ht2:upd H1 tq (.tup [.int a,.int b,.int c]) tq=some (.tup [.int a,.int b,.int c]):=ac;generalize upd H1 tq (.tup [.int a,.int b,.int c])=H2 at *;walk_at"rx";refine⟨tq,rfl,⟨_,eB.of ht2⟩,?_⟩;refine BW (K:=K) (a:=tq) (xs:=[a,b,c].map V.int) (λi σ H'=>∃z4:Option V,σ=[some (.ref B.b),some (.ref aa),some (.int h),some (.ref x),z4]/\H'=H2/\∀j,j<i->∀z,[a,b,c][j]?=some z->0<=z/\z<=1000000)
  ⟨none,rfl,rfl,λj hj=>by omega⟩ (λi σ H' _ ⟨_,_,e,_⟩=>by rw[e];exact eB.of ht2) ?_ ?_
 .rintro i y σ H' hi ⟨z4,rfl,rfl,hin⟩;obtain⟨r,hr1,rfl⟩:=bb hi;have no1:¬(0<=r/\r<=1000000)->∀p,H' p=none->Q (.ref p) (upd H' p (.lst [.int (-1)])):=λhn p hp=>by
   rw[if_pos (by
    match i,hr1 with
    |0,e=>cases e;exact .inl (bv hn)
    |1,e=>cases e;exact .inr (.inl (bv hn))
    |2,e=>cases e;exact .inr (.inr (bv hn)))]at k
   exact k.one hB H' p s2 hp
  walk_at"rx";refine aY (λh1=>?_) (λh1=>?_)
  .walk_at"rx";refine dv (λh2=>?_) (λh2=>?_)
   .walk_at"rx";exact aD (lb rfl) (no1 (by omega))
   .walk_at"rx";refine⟨_,rfl,rfl,λj hj z hz=>?_⟩;by_cases e:j=i
    .rw[e,hr1]at hz;cases hz;exact⟨h1,h2⟩
    .exact hin j (by omega) z hz
  .walk_at"rx";exact aD (lb rfl) (no1 (by omega))
 .rintro σ H' ⟨z4,rfl,rfl,hin⟩;have ha:=hin 0 (lb rfl) a rfl;have hb':=hin 1 (lb rfl) b rfl;have hc:=hin 2 (lb rfl) c rfl;rw[if_neg (by rw[az.mpr ha,az.mpr hb',az.mpr hc];decide)]at k;have B2:=hB.same s2;have hb2:=s2 _ _ hb;walk_at"rx";refine⟨B,st,h,rfl,B2,?_⟩;cases eh:isHouse st h with
  |false=>
   rw[eh,if_pos rfl]at k;walk_at"rx";exact aD (lb rfl) λp hp=>k.one hB H' p s2 hp
  |true=>
   rw[eh,if_neg (by decide)]at k;have hh:=az.mp eh;walk_at"rx";refine⟨B,st,h.toNat,x,by rw[toNat_of_nonneg (by omega)],B2,by omega,?_⟩;have rt:fu (ad .Rates) H' x (jM ⟨a.toNat,b.toNat,c.toNat⟩):=⟨dy,by
    show H' x=some (.ins _ dy (zo (a.toNat:Int) (b.toNat:Int) (c.toNat:Int)));rw[toNat_of_nonneg ha.1,toNat_of_nonneg hb'.1,toNat_of_nonneg hc.1];exact hx2⟩
   have B3:=B2.set_rates (i:=h.toNat-1) rt;walk_at"rx";refine aD (lb rfl) λp hp=>?_;have f3:Fr H B (upd H' B.ra (.lst ((B.rs.set (h.toNat-1) x).map V.ref))) { B with rs:=B.rs.set (h.toNat-1) x }:=⟨λd o q nf=>by rw[ah (λz=>nf (.inr (.inl z)))];exact s2 _ _ q,λd f=>.inl f⟩
   have hp0:H p=none:=by
    refine s2.none_of ?_;by_cases z:p=B.ra
    .rw[z,ac]at hp;cases hp
    .rw[ah z]at hp;exact hp
   exact k _ _ p (B3.same (sN hp)) (f3.trans (Fr.same (sN hp))) rfl hp0 ac
theorem vc {l:List (Nat×Nat)}{k:Int}{j:Nat}(h:(j:Int)≠k):(l.filter λx=>(x.1:Int) != k).find? (λr=>r.1==j)=l.find? λr=>r.1==j:=by
 induction l with
 |nil=>rfl
 |cons x l ih=>
  rw[filter_cons];by_cases e:(x.1:Int)=k
  .rw[if_neg (by simpa using e),ih,find?_cons];have:(x.1==j)=false:=by rw[beq_eq_false_iff_ne];intro q;exact h (by rw[<- q];exact e)
   rw[this]
  .rw[if_pos (by simpa using e),find?_cons,find?_cons,ih]
theorem wu {l:List (Nat×Nat)}{k:Nat}(nd:(l.map (·.1)).Nodup):(l.filter λx=>(x.1:Int) != (k:Int)).length=l.length-if (l.find? λr=>r.1==k).isSome=true then 1 else 0:=by
 induction l with
 |nil=>rfl
 |cons x l ih=>
  rw[map_cons,nodup_cons]at nd;rw[filter_cons,find?_cons];by_cases e:x.1=k
  .have e1:(x.1==k)=true:=by simpa using e
   have e2:¬((x.1:Int) != (k:Int))=true:=by simp[e]
   rw[if_neg e2,e1,ih nd.2];have:(l.find? λr=>r.1==k)=none:=by rw[List.find?_eq_none];intro y hy q;exact nd.1 (by rw[e];exact mem_map.mpr ⟨y,hy,by simpa using q⟩)
   rw[this];simp
  .have e1:(x.1==k)=false:=by simpa using e
   have e2:((x.1:Int) != (k:Int))=true:=by rw[bne_iff_ne];omega
   rw[if_pos e2,e1,length_cons,ih nd.2,length_cons];by_cases q:(l.find? λr=>r.1==k).isSome=true
   .have:l≠[]:=λz=>by rw[z]at q;cases q
    have:=List.length_pos_iff.mpr this;rw[if_pos q];omega
   .rw[if_neg q];omega
def ke (s:Vbpoal.State)(k r:Int):Vbpoal.State:={ s with rates:=(k.toNat,r.toNat)::s.rates.filter λx=>(x.1:Int) != k }
theorem wv {s:Vbpoal.State}{k r:Int}(hk:1<=k)(hr:1<=r)(j:Int):dD (ke s k r) j=if j=k then some r else dD s j:=by
 unfold dD rateOf ke;show Option.map _ (Option.map _ (List.find? _ ((k.toNat,r.toNat)::s.rates.filter λx=>(x.1:Int) != k)))=_;rw[find?_cons];by_cases e:j=k
 .subst e;rw[if_pos rfl];simp only[BEq.rfl,map_some];rw[toNat_of_nonneg (by omega)]
 .rw[if_neg e];have:(k.toNat==j.toNat)=false:=by rw[beq_eq_false_iff_ne];omega
  simp only[this];rw[vc (by omega)]
theorem aA.set_money {H:Hp}{B:BA}{s:Vbpoal.State}{k r:Int}{kvs:List (cT×V)}(h:aA ad H B s)(wf:Wf s)(hk:1<=k)(hr:1<=r)(hm:H B.ma=some (.dK kvs)) :
  aA ad (upd H B.ma (.dK (gE kvs (.inl k) (.int r)))) B (ke s k r):=by
 obtain⟨⟨d,a1⟩,a2,a3,⟨kvs',a4,a5,a5'⟩,a6,a7,a8,a9,a10,a11⟩:=h;rw[hm]at a4;cases a4;refine⟨⟨d,?_⟩,?_,aK a3 λc _ v ⟨d',q⟩=>⟨d',?_⟩,⟨_,ac,?_,λj=>?_⟩,?_,aK a7 λc _ v ⟨d',q⟩=>⟨d',?_⟩,a8,?_,aK a10 λc _ v ⟨d',q⟩=>⟨d',?_⟩,a11⟩
 .rw[ah (aP a1 hm (by intro z;cases z))];exact a1
 .rw[ah (aP a2 hm (by intro z;cases z))];exact a2
 .rw[ah (aP q hm (by intro z;cases z))];exact q
 .have e:(kvs.any λkv=>decide (kv.1=Sum.inl k))=(s.rates.find? λr=>r.1==k.toNat).isSome:=by rw[gr,a5'];unfold dD rateOf;cases s.rates.find? λr=>r.1==k.toNat<;>rfl
  have fl:=wu (k:=k.toNat) wf.rn;rw[toNat_of_nonneg (by omega)]at fl;show(gE kvs (.inl k) (.int r)).length=(s.rates.filter λx=>(x.1:Int) != k).length+1;rw[fl];unfold gE;rw[e];by_cases q:(s.rates.find? λr=>r.1==k.toNat).isSome=true
  .rw[if_pos q,if_pos q,length_map,a5];have:s.rates≠[]:=λz=>by rw[z]at q;cases q
   have:=List.length_pos_iff.mpr this;omega
  .rw[if_neg q,if_neg q,length_append,a5];rfl
 .rw[zV,wv hk hr];by_cases e:j=k
  .rw[if_pos (by rw[e]),if_pos e];rfl
  .rw[if_neg (λq=>e (Sum.inl.inj q)),if_neg e];exact a5' j
 .rw[ah (aP a6 hm (by intro z;cases z))];exact a6
 .rw[ah (aP q hm (by intro z;cases z))];exact q
 .rw[ah (aP a9 hm (by intro z;cases z))];exact a9
 .rw[ah (aP q hm (by intro z;cases z))];exact q
theorem gC {H1:Hp}{a p:Addr}{o:HO}(hp:upd H1 a o p=none):H1 p=none:=by
 by_cases z:p=a
 .rw[z,ac]at hp;cases hp
 .rw[ah z]at hp;exact hp
theorem Bz:∀(k:Nat) {l:List Nat},l.Nodup->(∀x∈l,x<k)->l.length<=k
 |0,[],_,_=>Nat.le_refl _
 |0,x::l,_,h=>by have:=h x mem_cons_self;omega
 |k+1,l,nd,h=>by
  have ih:=Bz k (nd.erase k) λx hx=>by have h1:=(List.Nodup.mem_erase_iff nd).mp hx;have:=h x h1.2;have:=h1.1;omega
  by_cases m:k∈l
  .rw[List.length_erase_of_mem m]at ih;omega
  .rw[List.erase_of_not_mem m]at ih;omega
theorem C9 {l:List Nat}(nd:l.Nodup)(hl:∀x∈l,1<=x/\x<=9):l.length<=10:=Bz 10 nd λx hx=>by have:=hl x hx;omega
theorem pJ (s:Vbpoal.State)(k r:Int):Vbpoal.step s (.money k r)=if inside k 1 9=false\/inside r 1 100000000=false then Vbpoal.no s 1 else yes (ke s k r) 0 []:=rfl
theorem sU (T:Tx K mg ad fdt):aG P w K mg base bO 8 (ad .set_money) (fdt .set_money) ["book","arguments"] (n8 ad tp 2):=by
 have G_Book_give_money_rate:=qc (P:=P) (w:=w) (base:=base) T;refine T.f_set_money.fn.ok iV (λvs H Q E h=>h.two) (λcdv A outer s H vs Q E hr h=>?_);obtain⟨B,st,aa,nums,rows,rfl,hB,wf,tab,ha,hask,k⟩:=h;obtain⟨m,r,rfl,rfl⟩:=wr (.inl rfl) hask;have k:=k.plain hB tab;have k:eX ad H B (Vbpoal.step st (.money m r)).1 (flat (Vbpoal.step st (.money m r)).2) Q:=k;rw[pJ]at k;have la:=ha.nums;obtain⟨dx,hb⟩:=hB.bk;walk_at"bk";refine⟨_,(ae (aq (i:=2) iV.nd rfl (Or.inl rfl) (bf aJ (pv 1) al (λ_ _=>rfl))) (ae (aq (i:=3) iV.nd rfl (Or.inl rfl) (bf aJ (pv 1) al (λ_ _=>rfl))) (ae (bg (dF (PW.pt (eC (eD dw dw al (pv 2) (aS T.g_MOST_MONEYS)) (dQ (eD dw dw al (pv 3) (aS T.g_MOST_MONEY_RATE)))))) (ai (ao (aw (ab (aS T.g_OUT_OF_RANGE) af)))) aE) (ae (aV (cj (pv 0) T.k_Book T.m_Book_give_money_rate G_Book_give_money_rate (hr.mono (by decide)) (ab (pv 2) (ab (pv 3) af)))) (ai (ao (aw (ab al af)))))))),?_⟩;walk_at"prep";walk_at"rx";refine bw (aR.of la) (aO (j:=0) rfl) ?_;walk_at"rx";refine bw (aR.of la) (aO (j:=1) rfl) ?_;have no1:¬((1<=m/\m<=9)/\1<=r/\r<=100000000)->∀p,H p=none->Q (.ref p) (upd H p (.lst [.int (-1)])):=λh p hp=>by
  rw[if_pos (by
   by_cases q:1<=m/\m<=9
   .exact .inr (bv λz=>h ⟨q,z⟩)
   .exact .inl (bv q))]at k
  exact k.one hB H p (au.refl H) hp
 walk_at"rx";refine aY (λh1=>?_) (λh1=>?_)
 .walk_at"rx";refine aY (λh2=>?_) (λh2=>?_)
  .walk_at"rx";refine aY (λh3=>?_) (λh3=>?_)
   .walk_at"rx";refine dv (λh4=>?_) (λh4=>?_)
    .walk_at"rx";exact aD (lb rfl) (no1 (by omega))
    .rw[if_neg (by rw[az.mpr ⟨h1,h2⟩,az.mpr ⟨h3,h4⟩];decide)]at k;obtain⟨kvs,hm,hl,_⟩:=hB.mo;walk_at"rx";refine⟨B,st,m,r,kvs,rfl,hB,hm,?_,?_⟩
     .have:=C9 wf.rn λx hx=>by obtain⟨y,hy,rfl⟩:=mem_map.mp hx;exact(wf.rk y hy).1
      rw[length_map]at this;omega
     have B1:=hB.set_money (k:=m) (r:=r) wf h1 h3 hm;walk_at"rx";refine aD (lb rfl) λp hp=>?_;have f1:Fr H B (upd H B.ma (.dK (gE kvs (.inl m) (.int r)))) B:=Fr.upd (.inr (.inr (.inl rfl)));exact k _ _ p (B1.same (sN hp)) (f1.trans (Fr.same (sN hp))) rfl (gC hp) ac
   .walk_at"rx";exact aD (lb rfl) (no1 (by omega))
  .walk_at"rx";exact aD (lb rfl) (no1 (by omega))
 .walk_at"rx";exact aD (lb rfl) (no1 (by omega))
theorem vd (s:Vbpoal.State)(n:Int):Vbpoal.step s (.day n)=if inside n 0 1000=false then Vbpoal.no s 1 else if Vbpoal.LASTDAY<s.day+n.toNat then Vbpoal.no s 8 else
   yes { s with day:=s.day+n.toNat,statements:=s.statements.map (aged (s.day+n.toNat)) } (s.day+n.toNat) []:=rfl
theorem qd (T:Tx K mg ad fdt):aG P w K mg base bO 8 (ad .go_on_days) (fdt .go_on_days) ["book","arguments"] (n8 ad tp 3):=by
 have G_Book_pass_days:=sO (P:=P) (w:=w) (base:=base) T;refine T.f_go_on_days.fn.ok kt (λvs H Q E h=>h.two) (λcdv A outer s H vs Q E hr h=>?_);obtain⟨B,st,aa,nums,rows,rfl,hB,wf,tab,ha,hask,k⟩:=h;obtain⟨n,rfl,rfl⟩:=jR (.inr (.inl rfl)) hask;have k:=k.plain hB tab;have k:eX ad H B (Vbpoal.step st (.day n)).1 (flat (Vbpoal.step st (.day n)).2) Q:=k;rw[vd]at k;have la:=ha.nums;obtain⟨dx,hb⟩:=hB.bk;walk_at"bk";refine⟨_,(ae (aq (i:=2) kt.nd rfl (Or.inl rfl) (bf aJ (pv 1) al (λ_ _=>rfl))) (ae (bg (dF (eD dw dw al (pv 2) (aS T.g_MOST_DAYS))) (ai (ao (aw (ab (aS T.g_OUT_OF_RANGE) af)))) aE) (ae (bg (ay fP (aL cD (am (pv 0) rfl) (pv 2)) (aS T.g_LAST_DAY) (aB _)) (ai (ao (aw (ab (aS T.g_TOO_MANY) af)))) aE) (ae (aV (cj (pv 0) T.k_Book T.m_Book_pass_days G_Book_pass_days (hr.mono (by decide)) (ab (pv 2) af))) (ai (ao (aw (ab (am (pv 0) rfl) af)))))))),?_⟩;walk_at"prep";walk_at"rx";refine bw (aR.of la) (aO (j:=0) rfl) ?_;have no1:¬(0<=n/\n<=1000)->∀p,H p=none->Q (.ref p) (upd H p (.lst [.int (-1)])):=λh p hp=>by rw[if_pos (bv h)]at k;exact k.one hB H p (au.refl H) hp
 walk_at"rx";refine aY (λh1=>?_) (λh1=>?_)
 .walk_at"rx";refine dv (λh2=>?_) (λh2=>?_)
  .walk_at"rx";exact aD (lb rfl) (no1 (by omega))
  .rw[if_neg (by rw[az.mpr ⟨h1,h2⟩];decide)]at k;have eL:Vbpoal.LASTDAY=100000:=rfl;walk_at"rx";refine aY (λh3=>?_) (λh3=>?_)
   .rw[if_pos (by omega)]at k;walk_at"rx";exact aD (lb rfl) λp hp=>k.one hB H p (au.refl H) hp
   .rw[if_neg (by omega)]at k;walk_at"rx";refine⟨B,st,n.toNat,by rw[toNat_of_nonneg (by omega)],hB,λH1 hB1 f1=>?_⟩;obtain⟨dx1,hb1⟩:=hB1.bk;walk_at"rx";refine aD (lb rfl) λp hp=>?_;have hp0:H p=none:=by
     cases q:H p with
     |none=>rfl
     |some o=>
      by_cases z:B.F p
      .rcases hB1.kind z with⟨_,_,_,e⟩|⟨_,e⟩|⟨_,e⟩<;>rw[e]at hp<;>cases hp
      .rw[f1.keep p o q z]at hp;cases hp
    exact k _ _ p (hB1.same (sN hp)) (f1.trans (Fr.same (sN hp))) rfl hp0 ac
 .walk_at"rx";exact aD (lb rfl) (no1 (by omega))
open Vbpoal (onStatement)
theorem ww {s:Vbpoal.State}{n:Int}{z:Nat}{g:Nat->Vbpoal.Statement->Vbpoal.State×Ans}(h:jP s n z<0):onStatement s n (λk x=>if x.state≠z then Vbpoal.no s 6 else g k x)=(s,⟨jP s n z,[]⟩):=by
 unfold jP onStatement at *;by_cases q:1<=n/\n<=100
 .rw[if_neg (by rw[az.mpr q];decide)]at h ⊢;rw[if_neg (by rw[az.mpr q];decide)];cases e:s.statements[n.toNat-1]? with
  |none=>rfl
  |some x=>
   rw[e]at h;have h:(if x.state≠z then(-6:Int)else 0)<0:=h;show(if x.state≠z then Vbpoal.no s 6 else g n.toNat x)=(s,⟨if x.state≠z then -6 else 0,[]⟩);by_cases w:x.state≠z
   .rw[if_pos w,if_pos w];rfl
   .rw[if_neg w]at h;exact absurd h (by decide)
 .rw[if_pos (bv q),if_pos (bv q)];rfl
theorem wx {s:Vbpoal.State}{n:Int}{z:Nat}{g:Nat->Vbpoal.Statement->Vbpoal.State×Ans}(h:¬jP s n z<0):∃x,(1<=n/\n<=100)/\s.statements[n.toNat-1]?=some x/\x.state=z/\onStatement s n (λk x=>if x.state≠z then Vbpoal.no s 6 else g k x)=g n.toNat x:=by
 unfold jP at h;by_cases q:1<=n/\n<=100
 .rw[if_neg (by rw[az.mpr q];decide)]at h;cases e:s.statements[n.toNat-1]? with
  |none=>rw[e]at h;exact absurd (show(-4:Int)<0 by decide) h
  |some x=>
   rw[e]at h;have h:¬(if x.state≠z then(-6:Int)else 0)<0:=h;have w:x.state=z:=by
    by_cases w:x.state=z
    .exact w
    .rw[if_pos w]at h;exact absurd (by decide) h
   refine⟨x,q,rfl,w,?_⟩;unfold onStatement;rw[if_neg (by rw[az.mpr q];decide),e];show(if x.state≠z then Vbpoal.no s 6 else g n.toNat x)=_;rw[if_neg (λu=>u w)]
 .rw[if_pos (bv q)]at h;exact absurd (by decide) h
theorem Da {s:Vbpoal.State}{n:Int}{g:Nat->Vbpoal.Statement->Vbpoal.State×Ans}(h:fH s n<0):onStatement s n g=(s,⟨fH s n,[]⟩):=by
 unfold fH onStatement at *;by_cases q:1<=n/\n<=100
 .rw[if_neg (by rw[az.mpr q];decide)]at h ⊢;rw[if_neg (by rw[az.mpr q];decide)];cases e:s.statements[n.toNat-1]? with
  |none=>rfl
  |some x=>
   rw[e]at h;exact absurd h (show¬(0:Int)<0 by decide)
 .rw[if_pos (bv q),if_pos (bv q)];rfl
theorem Db {s:Vbpoal.State}{n:Int}{g:Nat->Vbpoal.Statement->Vbpoal.State×Ans}(h:¬fH s n<0):∃x,(1<=n/\n<=100)/\s.statements[n.toNat-1]?=some x/\onStatement s n g=g n.toNat x:=by have h0:fH s n=0:=Classical.byContradiction λz=>h (zb z);obtain⟨x,q,e⟩:=pE h0;refine⟨x,q,e,?_⟩;unfold onStatement;rw[if_neg (by rw[az.mpr q];decide),e]
theorem aA.at_n {H:Hp}{B:BA}{s:Vbpoal.State}{n:Int}{x:Vbpoal.Statement}(h:aA ad H B s)(hn:1<=n/\n<=100)(hx:s.statements[n.toNat-1]?=some x):∃a dx,B.ss[n.toNat-1]?=some a/\H a=some (.ins (ad .Statement) dx (nG x)):=by
 have hi:n.toNat-1<B.ss.length:=by have:=(List.getElem?_eq_some_iff.mp hx).1;have:=h.len_ss;omega
 obtain⟨x',hx',⟨dx',hax⟩⟩:=dj h.sp (List.getElem?_eq_getElem hi);rw[hx]at hx';cases hx';exact⟨_,dx',List.getElem?_eq_getElem hi,hax⟩
theorem EV {B:BA}{i:Nat}{a:Addr}(h:B.ss[i]?=some a):B.F a:=.inr (.inr (.inr (.inr (.inr (mem_of_getElem? h)))))
def n9 (s:Vbpoal.State)(n:Int)(z:Nat):Vbpoal.State×Ans:=onStatement s n λk x=>if x.state≠z then Vbpoal.no s 6 else yes (setStatement s k { x with state:=3,figure:=x.full }) x.full []
inductive zd (ad:Fn->Addr)(vs:List V)(H:Hp)(Q:VK)(E:XK):Prop
 |mk (B:BA)(s:Vbpoal.State)(n:Int)(z:Nat)(_:vs=[.ref B.b,.int n,.int z])(_:aA ad H B s)(_:eX ad H B (n9 s n z).1 (flat (n9 s n z).2) Q)
theorem iD (T:Tx K mg ad fdt):aG P w K mg base bO 3 (ad .agree_on_full) (fdt .agree_on_full) ["book","number","state"] (zd ad):=by
 have G_refusal_unless_in_state:=pF (P:=P) (w:=w) (base:=base) T;have G_Book_find_statement:=cQ (P:=P) (w:=w) (base:=base) T;have G_Statement_agree_on:=hU (P:=P) (w:=w) (base:=base) T.m_Statement_agree_on.fn T.tst;refine T.f_agree_on_full.fn.ok fo (λvs H Q E h=>?_) (λcdv A outer s H vs Q E hr h=>?_)
 .obtain⟨_,_,_,_,rfl,_⟩:=h
  rfl
 .obtain⟨B,st,n,z,rfl,hB,k⟩:=h;obtain⟨dx,hb⟩:=hB.bk;walk_at"bk";walk_at"st";refine⟨_,(ae (aq (i:=3) fo.nd rfl (Or.inl rfl) (bG T.f_refusal_unless_in_state G_refusal_unless_in_state (hr.mono (by decide)) (ab (pv 0) (ab (pv 1) (ab (pv 2) af))))) (ae (bg (ay k7 (pv 3) al (aB _)) (ai (ao (aw (ab (pv 3) af)))) aE) (ae (aq (i:=4) fo.nd rfl (Or.inl rfl) (cj (pv 0) T.k_Book T.m_Book_find_statement G_Book_find_statement (hr.mono (by decide)) (ab (pv 1) af))) (ae (aV (cj (pv 4) T.k_Statement T.m_Statement_agree_on G_Statement_agree_on (hr.mono (by decide)) (ab (am (pv 4) rfl) af))) (ai (ao (aw (ab (am (pv 4) rfl) af)))))))),?_⟩;walk_at"prep";walk_at"rx";refine⟨B,st,n,z,rfl,hB,?_⟩;walk_at"rx";refine aY (λh1=>?_) (λh1=>?_)
  .unfold n9 at k;rw[ww h1]at k;walk_at"rx";exact aD (lb rfl) λp hp=>k.one hB H p (au.refl H) hp
  .obtain⟨x,hn,hx,hz,e⟩:=wx (g:=λk x=>yes (setStatement st k { x with state:=3,figure:=x.full }) x.full []) h1;unfold n9 at k;rw[e]at k;obtain⟨a,dx',ha,hax⟩:=hB.at_n hn hx;walk_at"rx";refine⟨B,st,n.toNat,a,by rw[toNat_of_nonneg (by omega)],hB,by omega,ha,?_⟩;walk_at"rx";refine⟨a,dx',x,x.full,rfl,hax,?_⟩;have B1:=hB.set_st (y:={ x with state:=3,figure:=x.full }) ha hax;have hax1:upd H a (.ins (ad .Statement) dx' (nG { x with state:=3,figure:=x.full })) a=some (.ins (ad .Statement) dx' (nG { x with state:=3,figure:=x.full })):=ac;walk_at"rx";refine aD (lb rfl) λp hp=>?_;exact k _ B p (B1.same (sN hp)) ((Fr.upd (EV ha)).trans (Fr.same (sN hp))) rfl (gC hp) ac
theorem ze (T:Tx K mg ad fdt):aG P w K mg base bO 8 (ad .accept) (fdt .accept) ["book","arguments"] (n8 ad tp 5):=by have G_agree_on_full:=iD (P:=P) (w:=w) (base:=base) T;refine T.f_accept.fn.ok yB (λvs H Q E h=>h.two) (λcdv A outer s H vs Q E hr h=>?_);obtain⟨B,st,aa,nums,rows,rfl,hB,wf,tab,ha,hask,k⟩:=h;obtain⟨n,rfl,rfl⟩:=jR (.inr (.inr (.inl rfl))) hask;have k:=k.plain hB tab;have la:=ha.nums;refine⟨_,(ai (ao (bG T.f_agree_on_full G_agree_on_full (hr.mono (by decide)) (ab (pv 0) (ab (bf aJ (pv 1) al (λ_ _=>rfl)) (ab (aS T.g_SENT) af)))))),?_⟩;walk_at"prep";walk_at"rx";refine bw (aR.of la) (aO (j:=0) rfl) ?_;walk_at"rx";exact⟨B,st,n,1,rfl,hB,k⟩
theorem BB (T:Tx K mg ad fdt):aG P w K mg base bO 8 (ad .stand_on_full) (fdt .stand_on_full) ["book","arguments"] (n8 ad tp 8):=by have G_agree_on_full:=iD (P:=P) (w:=w) (base:=base) T;refine T.f_stand_on_full.fn.ok mr (λvs H Q E h=>h.two) (λcdv A outer s H vs Q E hr h=>?_);obtain⟨B,st,aa,nums,rows,rfl,hB,wf,tab,ha,hask,k⟩:=h;obtain⟨n,rfl,rfl⟩:=jR (.inr (.inr (.inr (.inr (.inl rfl))))) hask;have k:=k.plain hB tab;have la:=ha.nums;refine⟨_,(ai (ao (bG T.f_agree_on_full G_agree_on_full (hr.mono (by decide)) (ab (pv 0) (ab (bf aJ (pv 1) al (λ_ _=>rfl)) (ab (aS T.g_DISPUTED) af)))))),?_⟩;walk_at"prep";walk_at"rx";refine bw (aR.of la) (aO (j:=0) rfl) ?_;walk_at"rx";exact⟨B,st,n,2,rfl,hB,k⟩
theorem BC (T:Tx K mg ad fdt):aG P w K mg base bO 8 (ad .yield_to_other) (fdt .yield_to_other) ["book","arguments"] (n8 ad tp 7):=by
 have G_refusal_unless_in_state:=pF (P:=P) (w:=w) (base:=base) T;have G_Book_find_statement:=cQ (P:=P) (w:=w) (base:=base) T;have G_Statement_agree_on:=hU (P:=P) (w:=w) (base:=base) T.m_Statement_agree_on.fn T.tst;refine T.f_yield_to_other.fn.ok eO (λvs H Q E h=>h.two) (λcdv A outer s H vs Q E hr h=>?_);obtain⟨B,st,aa,nums,rows,rfl,hB,wf,tab,ha,hask,k⟩:=h;obtain⟨n,rfl,rfl⟩:=jR (.inr (.inr (.inr (.inl rfl)))) hask;have k:=k.plain hB tab;have k:eX ad H B (onStatement st n λk x=>if x.state≠2 then Vbpoal.no st 6 else yes (setStatement st k { x with state:=3 }) x.figure []).1 (flat (onStatement st n λk x=>if x.state≠2 then Vbpoal.no st 6 else yes (setStatement st k { x with state:=3 }) x.figure []).2) Q:=k;have la:=ha.nums;obtain⟨dx,hb⟩:=hB.bk;walk_at"bk";walk_at"st";refine⟨_,(ae (aq (i:=2) eO.nd rfl (Or.inl rfl) (bG T.f_refusal_unless_in_state G_refusal_unless_in_state (hr.mono (by decide)) (ab (pv 0) (ab (bf aJ (pv 1) al (λ_ _=>rfl)) (ab (aS T.g_DISPUTED) af))))) (ae (bg (ay k7 (pv 2) al (aB _)) (ai (ao (aw (ab (pv 2) af)))) aE) (ae (aq (i:=3) eO.nd rfl (Or.inl rfl) (cj (pv 0) T.k_Book T.m_Book_find_statement G_Book_find_statement (hr.mono (by decide)) (ab (bf aJ (pv 1) al (λ_ _=>rfl)) af))) (ae (aV (cj (pv 3) T.k_Statement T.m_Statement_agree_on G_Statement_agree_on (hr.mono (by decide)) (ab (am (pv 3) rfl) af))) (ai (ao (aw (ab (am (pv 3) rfl) af)))))))),?_⟩;walk_at"prep";walk_at"rx";refine bw (aR.of la) (aO (j:=0) rfl) ?_;walk_at"rx";refine⟨B,st,n,2,rfl,hB,?_⟩;walk_at"rx";refine aY (λh1=>?_) (λh1=>?_)
 .rw[ww h1]at k;walk_at"rx";exact aD (lb rfl) λp hp=>k.one hB H p (au.refl H) hp
 .obtain⟨x,hn,hx,hz,e⟩:=wx (g:=λk x=>yes (setStatement st k { x with state:=3 }) x.figure []) h1;rw[e]at k;obtain⟨a,dx',ha,hax⟩:=hB.at_n hn hx;walk_at"rx";refine bw (aR.of la) (aO (j:=0) rfl) ?_;walk_at"rx";refine⟨B,st,n.toNat,a,by rw[toNat_of_nonneg (by omega)],hB,by omega,ha,?_⟩;walk_at"rx";refine⟨a,dx',x,x.figure,rfl,hax,?_⟩;have B1:=hB.set_st (y:={ x with state:=3 }) ha hax;have hax1:upd H a (.ins (ad .Statement) dx' (nG { x with state:=3 })) a=some (.ins (ad .Statement) dx' (nG { x with state:=3 })):=ac;walk_at"rx";refine aD (lb rfl) λp hp=>?_;exact k _ B p (B1.same (sN hp)) ((Fr.upd (EV ha)).trans (Fr.same (sN hp))) rfl (gC hp) ac
theorem lP (T:Tx K mg ad fdt):aG P w K mg base bO 8 (ad .tell_statement) (fdt .tell_statement) ["book","arguments"] (n8 ad tp 9):=by
 have G_refusal_unless_statement:=u9 (P:=P) (w:=w) (base:=base) T;have G_Book_find_statement:=cQ (P:=P) (w:=w) (base:=base) T;have G_as_row:=cM (P:=P) (w:=w) (base:=base) T;refine T.f_tell_statement.fn.ok dB (λvs H Q E h=>h.two) (λcdv A outer s H vs Q E hr h=>?_);obtain⟨B,st,aa,nums,rows,rfl,hB,wf,tab,ha,hask,k⟩:=h;obtain⟨n,rfl,rfl⟩:=jR (.inr (.inr (.inr (.inr (.inr (.inl rfl)))))) hask;have k:=k.plain hB tab;have k:eX ad H B (onStatement st n λ_ x=>yes st x.state [Vbpoal.ints [x.from_,x.to,x.day,x.full,x.since,x.figure]]).1 (flat (onStatement st n λ_ x=>yes st x.state [Vbpoal.ints [x.from_,x.to,x.day,x.full,x.since,x.figure]]).2) Q:=k;have la:=ha.nums;obtain⟨dx,hb⟩:=hB.bk;walk_at"bk";walk_at"st";refine⟨_,(ae (aq (i:=2) dB.nd rfl (Or.inl rfl) (bG T.f_refusal_unless_statement G_refusal_unless_statement (hr.mono (by decide)) (ab (pv 0) (ab (bf aJ (pv 1) al (λ_ _=>rfl)) af)))) (ae (bg (ay k7 (pv 2) al (aB _)) (ai (ao (aw (ab (pv 2) af)))) aE) (ae (aq (i:=3) dB.nd rfl (Or.inl rfl) (cj (pv 0) T.k_Book T.m_Book_find_statement G_Book_find_statement (hr.mono (by decide)) (ab (bf aJ (pv 1) al (λ_ _=>rfl)) af))) (ae (aq (i:=4) dB.nd rfl (Or.inl rfl) (aw (ab (am (pv 3) rfl) (ab (am (pv 3) rfl) (ab (am (pv 3) rfl) af))))) (ae (aV (dz PySem.F.plainAttrs_list PySem.F.slot_list_extend PySem.F.type_list_extend dR (pv 4) (ab (aw (ab (am (pv 3) rfl) (ab (am (pv 3) rfl) (ab (am (pv 3) rfl) af)))) af))) (ai (ao (aL d9 (aw (ab (am (pv 3) rfl) af)) (bG T.f_as_row G_as_row (hr.mono (by decide)) (ab (pv 4) af)))))))))),?_⟩;walk_at"prep";walk_at"rx";refine bw (aR.of la) (aO (j:=0) rfl) ?_;walk_at"rx";refine⟨B,st,n,rfl,hB,?_⟩;walk_at"rx";refine aY (λh1=>?_) (λh1=>?_)
 .rw[Da h1]at k;walk_at"rx";exact aD (lb rfl) λp hp=>k.one hB H p (au.refl H) hp
 .obtain⟨x,hn,hx,e⟩:=Db (g:=λ_ x=>yes st x.state [Vbpoal.ints [x.from_,x.to,x.day,x.full,x.since,x.figure]]) h1;rw[e]at k;obtain⟨a,dx',ha,hax⟩:=hB.at_n hn hx;walk_at"rx";refine bw (aR.of la) (aO (j:=0) rfl) ?_;walk_at"rx";refine⟨B,st,n.toNat,a,by rw[toNat_of_nonneg (by omega)],hB,by omega,ha,?_⟩;walk_at"rx";refine aD (lb rfl) λro hro=>?_;have s1:au H (upd H ro (.lst [.int x.from_,.int x.to,.int x.day])):=sN hro;have hr1:upd H ro (.lst [.int x.from_,.int x.to,.int x.day]) ro=some (.lst [.int x.from_,.int x.to,.int x.day]):=ac;generalize upd H ro (.lst [.int x.from_,.int x.to,.int x.day])=H1 at *;have hax1:=s1 _ _ hax;walk_at"rx";refine aD (lb rfl) λq hq=>?_;have hr2:upd H1 q (.lst [.int x.full,.int x.since,.int x.figure]) ro=some (.lst [.int x.from_,.int x.to,.int x.day]):=sN hq _ _ hr1;walk_at"rx";refine lh hr2 ac (le_of_lt (jX (lb rfl))) ?_;have s2:au H (upd (upd H1 q (.lst [.int x.full,.int x.since,.int x.figure])) ro (.lst ([.int x.from_,.int x.to,.int x.day]++[.int x.full,.int x.since,.int x.figure]))):=(s1.trans (sN hq)).upd_new hro;have hl2:LI (upd (upd H1 q (.lst [.int x.full,.int x.since,.int x.figure])) ro (.lst ([.int x.from_,.int x.to,.int x.day]++[.int x.full,.int x.since,.int x.figure]))) ro (Vbpoal.ints [x.from_,x.to,x.day,x.full,x.since,x.figure]):=ac;generalize upd (upd H1 q (.lst [.int x.full,.int x.since,.int x.figure])) ro (.lst ([.int x.from_,.int x.to,.int x.day]++[.int x.full,.int x.since,.int x.figure]))=H2 at *;have hax2:=s2 _ _ hax;walk_at"rx";refine aD (lb rfl) λu hu=>?_;have s3:au H (upd H2 u (.lst [.int x.state])):=s2.upd_new (s2.none_of hu);walk_at"rx";refine⟨ro,_,rfl,LI.same (sN hu) hl2,lb rfl,λH3 p s4 hp hl3=>?_⟩;refine fy (xs:=[(x.state:Int)]) (LI.same s4 ac) hl3 (lb rfl) λH4 p4 s5 hp4 hl4=>?_;have s6:=(s3.trans s4).trans s5;exact k.same hB s6 ((s3.trans s4).none_of hp4) hl4
def BD (s:Vbpoal.State)(a:Int)(k:Nat)(x:Vbpoal.Statement):Vbpoal.State×Ans:=if (x.full:Int)<=a then Vbpoal.no s 7
 else if 20*(x.full-a.toNat)<=x.full then yes (setStatement s k { x with state:=3,figure:=meanOf x.full a.toNat }) 3 [[(meanOf x.full a.toNat:Int)]]
 else yes (setStatement s k { x with state:=2,since:=s.day,figure:=a.toNat }) 2 [[a]]
theorem sV (s:Vbpoal.State)(n a:Int):Vbpoal.step s (.dispute n a)=if inside a 0 1000000000000=false then Vbpoal.no s 1 else onStatement s n λk x=>if x.state≠1 then Vbpoal.no s 6 else BD s a k x:=rfl
theorem wy (T:Tx K mg ad fdt):aG P w K mg base bO 8 (ad .dispute) (fdt .dispute) ["book","arguments"] (n8 ad tp 6):=by
 have G_refusal_unless_in_state:=pF (P:=P) (w:=w) (base:=base) T;have G_Book_find_statement:=cQ (P:=P) (w:=w) (base:=base) T;have G_Statement_agree_on:=hU (P:=P) (w:=w) (base:=base) T.m_Statement_agree_on.fn T.tst;have G_Statement_mean_with:=lJ (P:=P) (w:=w) (base:=base) T.m_Statement_mean_with.fn T.tst;have G_Statement_dispute_since:=mC (P:=P) (w:=w) (base:=base) T.m_Statement_dispute_since.fn T.tst;have G_as_row:=cM (P:=P) (w:=w) (base:=base) T;refine T.f_dispute.fn.ok gy (λvs H Q E h=>h.two) (λcdv A outer s H vs Q E hr h=>?_);obtain⟨B,st,aa,nums,rows,rfl,hB,wf,tab,ha,hask,k⟩:=h;obtain⟨n,o,rfl,rfl⟩:=wr (.inr (.inl rfl)) hask;have k:=k.plain hB tab;have k:eX ad H B (Vbpoal.step st (.dispute n o)).1 (flat (Vbpoal.step st (.dispute n o)).2) Q:=k;rw[sV]at k;have la:=ha.nums;obtain⟨dx,hb⟩:=hB.bk;walk_at"bk";walk_at"st";refine⟨_,(ae (aq (i:=2) gy.nd rfl (Or.inl rfl) (bf aJ (pv 1) al (λ_ _=>rfl))) (ae (aq (i:=3) gy.nd rfl (Or.inl rfl) (bf aJ (pv 1) al (λ_ _=>rfl))) (ae (bg (dF (eD dw dw al (pv 3) (aS T.g_MOST_FIGURE))) (ai (ao (aw (ab (aS T.g_OUT_OF_RANGE) af)))) aE) (ae (aq (i:=4) gy.nd rfl (Or.inl rfl) (bG T.f_refusal_unless_in_state G_refusal_unless_in_state (hr.mono (by decide)) (ab (pv 0) (ab (pv 2) (ab (aS T.g_SENT) af))))) (ae (bg (ay k7 (pv 4) al (aB _)) (ai (ao (aw (ab (pv 4) af)))) aE) (ae (aq (i:=5) gy.nd rfl (Or.inl rfl) (cj (pv 0) T.k_Book T.m_Book_find_statement G_Book_find_statement (hr.mono (by decide)) (ab (pv 2) af))) (ae (bg (ay qu (pv 3) (am (pv 5) rfl) (aB _)) (ai (ao (aw (ab (aS T.g_NOT_SO) af)))) aE) (ae (bg (ay dw (aL d6 (aL d5 (am (pv 5) rfl) (pv 3)) (aS T.g_CLOSE_ENOUGH)) (am (pv 5) rfl) (aB _)) (ai (aV (cj (pv 5) T.k_Statement T.m_Statement_agree_on G_Statement_agree_on (hr.mono (by decide)) (ab (cj (pv 5) T.k_Statement T.m_Statement_mean_with G_Statement_mean_with (hr.mono (by decide)) (ab (pv 3) af)) af)))) (ai (aV (cj (pv 5) T.k_Statement T.m_Statement_dispute_since G_Statement_dispute_since (hr.mono (by decide)) (ab (am (pv 0) rfl) (ab (pv 3) af)))))) (ai (ao (aL d9 (aw (ab (am (pv 5) rfl) af)) (bG T.f_as_row G_as_row (hr.mono (by decide)) (ab (aw (ab (am (pv 5) rfl) af)) af))))))))))))),?_⟩;walk_at"prep";walk_at"rx";refine bw (aR.of la) (aO (j:=0) rfl) ?_;walk_at"rx";refine bw (aR.of la) (aO (j:=1) rfl) ?_;have no1:¬(0<=o/\o<=1000000000000)->∀p,H p=none->Q (.ref p) (upd H p (.lst [.int (-1)])):=λh p hp=>by rw[if_pos (bv h)]at k;exact k.one hB H p (au.refl H) hp
 walk_at"rx";refine aY (λh1=>?_) (λh1=>?_)
 .walk_at"rx";refine dv (λh2=>?_) (λh2=>?_)
  .walk_at"rx";exact aD (lb rfl) (no1 (by omega))
  .rw[if_neg (by rw[az.mpr ⟨h1,h2⟩];decide)]at k;walk_at"rx";refine⟨B,st,n,1,rfl,hB,?_⟩;walk_at"rx";refine aY (λh3=>?_) (λh3=>?_)
   .rw[ww h3]at k;walk_at"rx";exact aD (lb rfl) λp hp=>k.one hB H p (au.refl H) hp
   .obtain⟨x,hn,hx,hz,e⟩:=wx (g:=BD st o) h3;rw[e]at k;obtain⟨a,dx',ha,hax⟩:=hB.at_n hn hx;unfold BD at k;have fin:∀(y:Vbpoal.Statement) (H1:Hp),H1=upd H a (.ins (ad .Statement) dx' (nG y))->eX ad H B (setStatement st n.toNat y) [(y.state:Int),1,(y.figure:Int)] Q->
      x8 (vp zR (yf (gq (tU K (fK 5) "state") jk)) (tF xQ (gq (yf (gq (tU K (fK 5) "figure") jk)) jk))) { nx:=λ_ H'=>Q .non H',rt:=Q } [some (.ref B.b),some (.ref aa),some (.int n),some (.int o),some (.int (jP st n 1)),some (.ref a)] H1:=λy H1 e1 k=>by
     have B1:=hB.set_st (y:=y) ha hax;rw[<- e1]at B1;have hax1:H1 a=some (.ins (ad .Statement) dx' (nG y)):=by rw[e1];exact ac
     have f1:Fr H B H1 B:=by rw[e1];exact Fr.upd (EV ha)
     have fr1:∀p,H1 p=none->H p=none:=λp hp=>by rw[e1]at hp;exact gC hp
     walk_at"rx";refine aD (lb rfl) λu hu=>?_;have hax2:upd H1 u (.lst [.int y.state]) a=some (.ins (ad .Statement) dx' (nG y)):=sN hu _ _ hax1;have s2:au H1 (upd H1 u (.lst [.int y.state])):=sN hu;have hu2:LI (upd H1 u (.lst [.int y.state])) u [(y.state:Int)]:=ac;generalize upd H1 u (.lst [.int y.state])=H2 at *;walk_at"rx";refine aD (lb rfl) λv hv=>?_;have s3:au H1 (upd H2 v (.lst [.int y.figure])):=s2.trans (sN hv);walk_at"rx";refine⟨v,[(y.figure:Int)],rfl,ac,lb rfl,λH3 p s4 hp hl3=>?_⟩;refine fy (xs:=[(y.state:Int)]) (LI.same s4 (LI.same (sN hv) hu2)) hl3 (lb rfl) λH4 p4 s5 hp4 hl4=>?_;have s6:=(s3.trans s4).trans s5;exact k H4 B p4 (B1.same s6) (f1.trans (Fr.same s6)) rfl (fr1 _ ((s3.trans s4).none_of hp4)) hl4
    walk_at"rx";refine⟨B,st,n.toNat,a,by rw[toNat_of_nonneg (by omega)],hB,by omega,ha,?_⟩;walk_at"rx";refine aY (λh4=>?_) (λh4=>?_)
    .rw[if_pos h4]at k;walk_at"rx";exact aD (lb rfl) λp hp=>k.one hB H p (au.refl H) hp
    .rw[if_neg h4]at k;walk_at"rx";refine gF (.inr ⟨by decide,by decide⟩) ?_;walk_at"rx";refine aY (λh5=>?_) (λh5=>?_)
     .rw[if_pos (by omega)]at k;walk_at"rx";refine⟨a,dx',x,o.toNat,by rw[toNat_of_nonneg (by omega)],hax,?_⟩;walk_at"rx";refine⟨a,dx',x,_,rfl,hax,?_⟩;exact fin _ _ rfl k
     .rw[if_neg (by omega)]at k;walk_at"rx";refine⟨a,dx',x,st.day,o.toNat,by rw[toNat_of_nonneg (by omega)],hax,?_⟩;refine fin { x with state:=2,since:=st.day,figure:=o.toNat } _ rfl ?_;have e3:flat (yes (setStatement st n.toNat { x with state:=2,since:=st.day,figure:=o.toNat }) 2 [[o]]).2=[((2:Nat):Int),1,((o.toNat:Nat):Int)]:=by rw[toNat_of_nonneg (by omega)];rfl
      rw[e3]at k;exact k
 .walk_at"rx";exact aD (lb rfl) (no1 (by omega))
theorem sW (T:Tx K mg ad fdt):aG P w K mg base bO 8 (ad .tell_debt) (fdt .tell_debt) ["book","arguments"] (n8 ad tp 10):=by
 have G_Book_has_house:=dW (P:=P) (w:=w) (base:=base) T;have G_Book_debt_of:=wm (P:=P) (w:=w) (base:=base) T;have G_as_row:=cM (P:=P) (w:=w) (base:=base) T;refine T.f_tell_debt.fn.ok iW (λvs H Q E h=>h.two) (λcdv A outer s H vs Q E hr h=>?_);obtain⟨B,st,aa,nums,rows,rfl,hB,wf,tab,ha,hask,k⟩:=h;obtain⟨a,b,rfl,rfl⟩:=wr (.inr (.inr rfl)) hask;have k:=k.plain hB tab;have k:eX ad H B (if isHouse st a=false\/isHouse st b=false then Vbpoal.no st 4 else yes st 0 [[Vbpoal.owes st a.toNat b.toNat]]).1 (flat (if isHouse st a=false\/isHouse st b=false then Vbpoal.no st 4 else yes st 0 [[Vbpoal.owes st a.toNat b.toNat]]).2) Q:=k;have la:=ha.nums;obtain⟨dx,hb⟩:=hB.bk;walk_at"bk";refine⟨_,(ae (aq (i:=2) iW.nd rfl (Or.inl rfl) (bf aJ (pv 1) al (λ_ _=>rfl))) (ae (aq (i:=3) iW.nd rfl (Or.inl rfl) (bf aJ (pv 1) al (λ_ _=>rfl))) (ae (bg (dF (PW.pt (eC (d4 (cj (pv 0) T.k_Book T.m_Book_has_house G_Book_has_house (hr.mono (by decide)) (ab (pv 2) af))) (dQ (d4 (cj (pv 0) T.k_Book T.m_Book_has_house G_Book_has_house (hr.mono (by decide)) (ab (pv 3) af))))))) (ai (ao (aw (ab (aS T.g_NOT_THERE) af)))) aE) (ai (ao (aL d9 (aw (ab al af)) (bG T.f_as_row G_as_row (hr.mono (by decide)) (ab (aw (ab (cj (pv 0) T.k_Book T.m_Book_debt_of G_Book_debt_of (hr.mono (by decide)) (ab (pv 2) (ab (pv 3) af))) af)) af)))))))),?_⟩;walk_at"prep";walk_at"rx";refine bw (aR.of la) (aO (j:=0) rfl) ?_;walk_at"rx";refine bw (aR.of la) (aO (j:=1) rfl) ?_;walk_at"rx";refine⟨B,st,a,rfl,hB,?_⟩;cases e1:isHouse st a with
 |false=>
  rw[if_pos (.inl e1)]at k;walk_at"rx";exact aD (lb rfl) λp hp=>k.one hB H p (au.refl H) hp
 |true=>
  walk_at"rx";refine⟨B,st,b,rfl,hB,?_⟩;cases e2:isHouse st b with
  |false=>
   rw[if_pos (.inr e2)]at k;walk_at"rx";exact aD (lb rfl) λp hp=>k.one hB H p (au.refl H) hp
  |true=>
   rw[if_neg (by rw[e1,e2];decide)]at k;have h1:=az.mp e1;have h2:=az.mp e2;walk_at"rx";refine aD (lb rfl) λu hu=>?_;have s1:au H (upd H u (.lst [.int 0])):=sN hu;have hu1:LI (upd H u (.lst [.int 0])) u [0]:=ac;generalize upd H u (.lst [.int 0])=H1 at *;have hb1:=s1 _ _ hb;walk_at"rx";refine⟨B,st,a.toNat,b.toNat,by rw[toNat_of_nonneg (by omega),toNat_of_nonneg (by omega)],hB.same s1,wf.st,λH2 s2=>?_⟩;walk_at"rx";refine aD (lb rfl) λv hv=>?_;walk_at"rx";refine⟨v,[Vbpoal.owes st a.toNat b.toNat],rfl,ac,lb rfl,λH3 p s4 hp hl3=>?_⟩;refine fy (xs:=[0]) (LI.same s4 (LI.same (sN hv) (LI.same s2 hu1))) hl3 (lb rfl) λH4 p4 s5 hp4 hl4=>?_;have s6:=((s1.trans s2).trans (sN hv)).trans s4;exact k.same hB (s6.trans s5) (s6.none_of hp4) hl4
theorem mK (T:Tx K mg ad fdt):aG P w K mg base bO 8 (ad .tell_position) (fdt .tell_position) ["book","arguments"] (n8 ad tp 11):=by
 have G_Book_has_house:=dW (P:=P) (w:=w) (base:=base) T;have G_Book_reckon_positions:=iC (P:=P) (w:=w) (base:=base) T;have G_as_row:=cM (P:=P) (w:=w) (base:=base) T;refine T.f_tell_position.fn.ok fk (λvs H Q E h=>h.two) (λcdv A outer s H vs Q E hr h=>?_);obtain⟨B,st,aa,nums,rows,rfl,hB,wf,tab,ha,hask,k⟩:=h;obtain⟨a,rfl,rfl⟩:=jR (.inr (.inr (.inr (.inr (.inr (.inr (.inl rfl))))))) hask;have k:=k.plain hB tab;have k:eX ad H B (if isHouse st a=false then Vbpoal.no st 4 else yes st 0 [[Vbpoal.position st a.toNat]]).1 (flat (if isHouse st a=false then Vbpoal.no st 4 else yes st 0 [[Vbpoal.position st a.toNat]]).2) Q:=k;rw[jr wf.si wf.pi]at k;have hu:=kq hr;have la:=ha.nums;obtain⟨dx,hb⟩:=hB.bk;walk_at"bk";refine⟨_,(ae (aq (i:=2) fk.nd rfl (Or.inl rfl) (bf aJ (pv 1) al (λ_ _=>rfl))) (ae (bg (dF (d4 (cj (pv 0) T.k_Book T.m_Book_has_house G_Book_has_house (hr.mono (by decide)) (ab (pv 2) af)))) (ai (ao (aw (ab (aS T.g_NOT_THERE) af)))) aE) (ae (aq (i:=3) fk.nd rfl (Or.inl rfl) (ff (pv 0) T.k_Book T.m_Book_reckon_positions G_Book_reckon_positions (hr.mono (by decide)))) (ai (ao (aL d9 (aw (ab al af)) (bG T.f_as_row G_as_row (hr.mono (by decide)) (ab (aw (ab (dS hu (pv 3) (pv 2) (λ_ _=>rfl)) af)) af)))))))),?_⟩;walk_at"prep";walk_at"rx";refine bw (aR.of la) (aO (j:=0) rfl) ?_;walk_at"rx";refine⟨B,st,a,rfl,hB,?_⟩;cases e1:isHouse st a with
 |false=>
  rw[if_pos e1]at k;walk_at"rx";exact aD (lb rfl) λp hp=>k.one hB H p (au.refl H) hp
 |true=>
  rw[if_neg (by rw[e1];decide)]at k;have h1:=az.mp e1;walk_at"rx";refine⟨B,st,rfl,hB,wf,λH1 p s1 hp hp1=>?_⟩;walk_at"rx";refine aD (lb rfl) λu hu'=>?_;have hp2:upd H1 u (.lst [.int 0]) p=some (.dK (bC st.houses.length (mv (cf st)))):=sN hu' _ _ hp1;have g1:dq (upd H1 u (.lst [.int 0])) p (.int a) (some (.int (mv (cf st) a.toNat))):=by
   have q:dq (upd H1 u (.lst [.int 0])) p (V.int a) (cS (bC st.houses.length (mv (cf st))) (.inl a)):=dq.k (k:=Sum.inl a) hp2;have e:(a:Int)=((a.toNat:Nat):Int):=by omega
   have e2:cS (bC st.houses.length (mv (cf st))) (.inl a)=some (.int (mv (cf st) a.toNat)):=by rw[e,eU (by omega),toNat_natCast]
   rw[e2]at q;exact q
  have s2:au H (upd H1 u (.lst [.int 0])):=s1.trans (sN hu');have hu1:LI (upd H1 u (.lst [.int 0])) u [0]:=ac;generalize upd H1 u (.lst [.int 0])=H2 at *;walk_at"rx";refine⟨p,_,rfl,g1,?_⟩;walk_at"rx";refine aD (lb rfl) λv hv=>?_;walk_at"rx";refine⟨v,[mv (cf st) a.toNat],rfl,ac,lb rfl,λH3 p3 s4 hp3 hl3=>?_⟩;refine fy (xs:=[0]) (LI.same s4 (LI.same (sN hv) hu1)) hl3 (lb rfl) λH4 p4 s5 hp4 hl4=>?_;have s6:=(s2.trans (sN hv)).trans s4;exact k.same hB (s6.trans s5) (s6.none_of hp4) hl4
theorem xT {α β:Type}{R:α->β->Prop}:∀{as:List α} {bs:List β},Paired R as bs->∀n,Paired R (as.drop n) (bs.drop n)
 |_,_,h,0=>h
 |_,_,.nil,_+1=>.nil
 |_,_,.cons r t,n+1=>xT t n
theorem xU {α β:Type}{R:α->β->Prop}:∀{as:List α} {bs:List β},Paired R as bs->∀n,Paired R (as.take n) (bs.take n)
 |_,_,h,0=>.nil
 |_,_,.nil,_+1=>.nil
 |_,_,.cons r t,n+1=>.cons r (xU t n)
theorem pK (T:Tx K mg ad fdt):aG P w K mg base bO 8 (ad .tell_counts) (fdt .tell_counts) ["book","arguments"] (n8 ad tp 19):=by have G_Book_agreed_statements:=mH (P:=P) (w:=w) (base:=base) T;have G_as_row:=cM (P:=P) (w:=w) (base:=base) T;refine T.f_tell_counts.fn.ok jK (λvs H Q E h=>h.two) (λcdv A outer s H vs Q E hr h=>?_);obtain⟨B,st,aa,nums,rows,rfl,hB,wf,tab,ha,hask,k⟩:=h;obtain⟨rfl,rfl⟩:=sR (.inr (.inr (.inr rfl))) hask;have k:=k.plain hB tab;have k:eX ad H B st [(st.day:Int),5,(st.houses.length:Int),(st.rates.length:Int),(st.statements.length:Int),((bN st).length:Int),(st.payments.length:Int)] Q:=k;obtain⟨dx,hb⟩:=hB.bk;obtain⟨kvs,hm,hml,_⟩:=hB.mo;have hsl:=hB.sl;have hpl:=hB.pl;have ls:=hB.len_ss;have lp:=hB.len_ps;walk_at"bk";refine⟨_,(ae (aq (i:=2) jK.nd rfl (Or.inl rfl) (aw (ab (am (pv 0) rfl) (ab (aI yp (by rfl) T.n_len boot_len (ab (am (pv 0) rfl) af)) (ab (aI ax (by rfl) T.n_len boot_len (ab (am (pv 0) rfl) af)) af))))) (ae (aV (dz PySem.F.plainAttrs_list PySem.F.slot_list_extend PySem.F.type_list_extend dR (pv 2) (ab (aw (ab (aI ax (by rfl) T.n_len boot_len (ab (ff (pv 0) T.k_Book T.m_Book_agreed_statements G_Book_agreed_statements (hr.mono (by decide))) af)) (ab (aI ax (by rfl) T.n_len boot_len (ab (am (pv 0) rfl) af)) af))) af))) (ai (ao (aL d9 (aw (ab (am (pv 0) rfl) af)) (bG T.f_as_row G_as_row (hr.mono (by decide)) (ab (pv 2) af))))))),?_⟩;walk_at"prep";walk_at"rx";refine⟨B.ma,kvs,rfl,hm,?_⟩;walk_at"rx";rw[length_map,ls,hml];refine aD (lb rfl) λro hro=>?_;have s1:au H (upd H ro (.lst [.int st.houses.length,.int st.rates.length,.int st.statements.length])):=sN hro;have hr1:upd H ro (.lst [.int st.houses.length,.int st.rates.length,.int st.statements.length]) ro=some (.lst [.int st.houses.length,.int st.rates.length,.int st.statements.length]):=ac;generalize upd H ro (.lst [.int st.houses.length,.int st.rates.length,.int st.statements.length])=H1 at *;have hb1:=s1 _ _ hb;walk_at"rx";refine⟨B,st,rfl,hB.same s1,wf.st,λH2 q as s2 hq0 hq1 hal hpr=>?_⟩;have lag:as.length=(bN st).length:=PySem.Paired.length hpr;have s12:=s1.trans s2;have hb2:=s12 _ _ hb;have hpl2:=s12 _ _ hpl;have hr2:=s2 _ _ hr1;walk_at"rx";rw[length_map,length_map,lag,lp];refine aD (lb rfl) λq2 hq2=>?_;have hr3:upd H2 q2 (.lst [.int (bN st).length,.int st.payments.length]) ro=some (.lst [.int st.houses.length,.int st.rates.length,.int st.statements.length]):=sN hq2 _ _ hr2;walk_at"rx";refine lh hr3 ac (le_of_lt (jX (lb rfl))) ?_;have s3:au H (upd (upd H2 q2 (.lst [.int (bN st).length,.int st.payments.length])) ro (.lst ([.int st.houses.length,.int st.rates.length,.int st.statements.length]++[.int (bN st).length,.int st.payments.length]))):=(s12.trans (sN hq2)).upd_new hro;have hl3:LI (upd (upd H2 q2 (.lst [.int (bN st).length,.int st.payments.length])) ro (.lst ([.int st.houses.length,.int st.rates.length,.int st.statements.length]++[.int (bN st).length,.int st.payments.length]))) ro [(st.houses.length:Int),(st.rates.length:Int),(st.statements.length:Int),((bN st).length:Int),(st.payments.length:Int)]:=ac;generalize upd (upd H2 q2 (.lst [.int (bN st).length,.int st.payments.length])) ro (.lst ([.int st.houses.length,.int st.rates.length,.int st.statements.length]++[.int (bN st).length,.int st.payments.length]))=H3 at *;have hb3:=s3 _ _ hb;walk_at"rx";refine aD (lb rfl) λu hu=>?_;walk_at"rx";refine⟨ro,_,rfl,LI.same (sN hu) hl3,lb rfl,λH4 p s4 hp hl4=>?_⟩;refine fy (xs:=[(st.day:Int)]) (LI.same s4 ac) hl4 (lb rfl) λH5 p5 s5 hp5 hl5=>?_;have s6:=(s3.trans (sN hu)).trans s4;exact k.same hB (s6.trans s5) (s6.none_of hp5) hl5
theorem aA.add_pay {H:Hp}{B:BA}{s:Vbpoal.State}{x:Addr}{y:Vbpoal.Payment}(h:aA ad H B s)(hx:fe (ad .Payment) H x y) :
  aA ad (upd H B.pa (.lst ((B.ps++[x]).map V.ref))) { B with ps:=B.ps++[x] } { s with payments:=s.payments++[y] }:=by
 obtain⟨⟨d,a1⟩,a2,a3,⟨kvs,a4,a5⟩,a6,a7,a8,a9,a10,a11⟩:=h;have kp:∀{c:Addr} {v:Vbpoal.Payment},fe (ad .Payment) H c v->fe (ad .Payment) (upd H B.pa (.lst ((B.ps++[x]).map V.ref))) c v:=λ{c v} ⟨d',q⟩=>⟨d',by rw[ah (aP q a9 (by intro z;cases z))];exact q⟩
 refine⟨⟨d,?_⟩,?_,aK a3 λc _ v ⟨d',q⟩=>⟨d',?_⟩,⟨kvs,?_,a5⟩,?_,aK a7 λc _ v ⟨d',q⟩=>⟨d',?_⟩,a8,ac,fh (aK a10 λc _ v q=>kp q) (kp hx),a11⟩
 .show upd _ _ _ _=_;rw[ah (aP a1 a9 (by intro z;cases z))];exact a1
 .show upd _ _ _ _=_;rw[ah a11.2.1];exact a2
 .rw[ah (aP q a9 (by intro z;cases z))];exact q
 .show upd _ _ _ _=_;rw[ah (aP a4 a9 (by intro z;cases z))];exact a4
 .show upd _ _ _ _=_;rw[ah a11.2.2];exact a6
 .rw[ah (aP q a9 (by intro z;cases z))];exact q
theorem F0 {B:BA}:B.F B.pa:=.inr (.inr (.inr (.inr (.inl rfl))))
theorem ve (s:Vbpoal.State)(a b n:Int):Vbpoal.step s (.pay a b n)=if inside n 1 1000000000000=false then Vbpoal.no s 1 else if isHouse s a=false\/isHouse s b=false then Vbpoal.no s 4 else if a=b then Vbpoal.no s 6
   else if PAYMENTS<=s.payments.length then Vbpoal.no s 8
   else yes { s with payments:=s.payments++[⟨a.toNat,b.toNat,n.toNat⟩] } (s.payments.length+1) []:=rfl
theorem EW (T:Tx K mg ad fdt):aG P w K mg base bO 8 (ad .pay) (fdt .pay) ["book","arguments"] (n8 ad tp 13):=by
 have G_Payment___init__:=fN (P:=P) (w:=w) (base:=base) T;have G_Book_has_house:=dW (P:=P) (w:=w) (base:=base) T;have G_Book_take_payment:=jg (P:=P) (w:=w) (base:=base) T;refine T.f_pay.fn.ok AH (λvs H Q E h=>h.two) (λcdv A outer s H vs Q E hr h=>?_);obtain⟨B,st,aa,nums,rows,rfl,hB,wf,tab,ha,hask,k⟩:=h;obtain⟨a,b,n,rfl,rfl⟩:=ET hask;have k:=k.plain hB tab;have k:eX ad H B (Vbpoal.step st (.pay a b n)).1 (flat (Vbpoal.step st (.pay a b n)).2) Q:=k;rw[ve]at k;have la:=ha.nums;obtain⟨dx,hb⟩:=hB.bk;walk_at"bk";walk_at"py";refine⟨_,(ae (aq (i:=2) AH.nd rfl (Or.inl rfl) (mS T.c_Payment T.b_Payment G_Payment___init__ (hr.mono (by decide)) (ab (bf aJ (pv 1) al (λ_ _=>rfl)) (ab (bf aJ (pv 1) al (λ_ _=>rfl)) (ab (bf aJ (pv 1) al (λ_ _=>rfl)) af))))) (ae (bg (dF (eD dw dw al (am (pv 2) rfl) (aS T.g_MOST_AMOUNT))) (ai (ao (aw (ab (aS T.g_OUT_OF_RANGE) af)))) aE) (ae (bg (dF (PW.pt (eC (d4 (cj (pv 0) T.k_Book T.m_Book_has_house G_Book_has_house (hr.mono (by decide)) (ab (am (pv 2) rfl) af))) (dQ (d4 (cj (pv 0) T.k_Book T.m_Book_has_house G_Book_has_house (hr.mono (by decide)) (ab (am (pv 2) rfl) af))))))) (ai (ao (aw (ab (aS T.g_NOT_THERE) af)))) aE) (ae (bg (ay dH (am (pv 2) rfl) (am (pv 2) rfl) (aB _)) (ai (ao (aw (ab (aS T.g_NOT_NOW) af)))) aE) (ae (bg (ay qu (aI ax (by rfl) T.n_len boot_len (ab (am (pv 0) rfl) af)) (aS T.g_MOST_PAYMENTS) (aB _)) (ai (ao (aw (ab (aS T.g_TOO_MANY) af)))) aE) (ae (aV (cj (pv 0) T.k_Book T.m_Book_take_payment G_Book_take_payment (hr.mono (by decide)) (ab (pv 2) af))) (ai (ao (aw (ab (aI ax (by rfl) T.n_len boot_len (ab (am (pv 0) rfl) af)) af)))))))))),?_⟩;walk_at"prep";walk_at"rx";refine bw (aR.of la) (aO (j:=0) rfl) ?_;walk_at"rx";refine bw (aR.of la) (aO (j:=1) rfl) ?_;walk_at"rx";refine bw (aR.of la) (aO (j:=2) rfl) ?_;walk_at"rx";intro x dy hx0 hdy0 nxd;refine⟨x,dy,a,b,n,rfl,ac,?_⟩;rw[bH];refine⟨rfl,?_⟩;have s1:au H (upd (upd H dy (.own x)) x (.ins (ad .Payment) dy (kT a b n))):=((au.refl H).upd_new hdy0).upd_new hx0;have hx1:upd (upd H dy (.own x)) x (.ins (ad .Payment) dy (kT a b n)) x=some (.ins (ad .Payment) dy (kT a b n)):=ac;generalize upd (upd H dy (.own x)) x (.ins (ad .Payment) dy (kT a b n))=H1 at *;have B1:=hB.same s1;have hb1:=s1 _ _ hb;have hpl1:=B1.pl;have lp:=hB.len_ps;have no1:¬(1<=n/\n<=1000000000000)->∀p,H1 p=none->Q (.ref p) (upd H1 p (.lst [.int (-1)])):=λh p hp=>by rw[if_pos (bv h)]at k;exact k.one hB H1 p s1 hp
 walk_at"rx";refine aY (λh1=>?_) (λh1=>?_)
 .walk_at"rx";refine dv (λh2=>?_) (λh2=>?_)
  .walk_at"rx";exact aD (lb rfl) (no1 (by omega))
  .rw[if_neg (by rw[az.mpr ⟨h1,h2⟩];decide)]at k;walk_at"rx";refine⟨B,st,a,rfl,B1,?_⟩;cases e1:isHouse st a with
   |false=>
    rw[if_pos (.inl e1)]at k;walk_at"rx";exact aD (lb rfl) λp hp=>k.one hB H1 p s1 hp
   |true=>
    walk_at"rx";refine⟨B,st,b,rfl,B1,?_⟩;cases e2:isHouse st b with
    |false=>
     rw[if_pos (.inr e2)]at k;walk_at"rx";exact aD (lb rfl) λp hp=>k.one hB H1 p s1 hp
    |true=>
     rw[if_neg (by rw[e1,e2];decide)]at k;have i1:=az.mp e1;have i2:=az.mp e2;walk_at"rx";refine aY (λh3=>?_) (λh3=>?_)
     .rw[if_pos h3]at k;walk_at"rx";exact aD (lb rfl) λp hp=>k.one hB H1 p s1 hp
     .rw[if_neg h3]at k;have eP:PAYMENTS=400:=rfl;walk_at"rx";rw[length_map,lp];refine aY (λh4=>?_) (λh4=>?_)
      .rw[if_pos (by omega)]at k;walk_at"rx";exact aD (lb rfl) λp hp=>k.one hB H1 p s1 hp
      .rw[if_neg (by omega)]at k;walk_at"rx";refine⟨B,st,x,rfl,B1,by omega,?_⟩;have px:fe (ad .Payment) H1 x ⟨a.toNat,b.toNat,n.toNat⟩:=⟨dy,by
        show H1 x=some (.ins _ dy (kT (a.toNat:Int) (b.toNat:Int) (n.toNat:Int)));rw[toNat_of_nonneg (by omega),toNat_of_nonneg (by omega),toNat_of_nonneg (by omega)];exact hx1⟩
       have B2:=B1.add_pay px;obtain⟨dx2,hb2⟩:=B2.bk;have hb2:upd H1 B.pa (.lst ((B.ps++[x]).map V.ref)) B.b=some (.ins (ad .Book) dx2 (zp st.day st.houses.length B.ra B.ma B.sa B.pa)):=hb2;walk_at"rx";rw[length_map,length_append,lp];refine aD (lb rfl) λp hp=>?_;have f1:Fr H B (upd H1 B.pa (.lst ((B.ps++[x]).map V.ref))) { B with ps:=B.ps++[x] }:=⟨λd o q nf=>by rw[ah (λz=>nf (by rw[z];exact F0))];exact s1 _ _ q,λd f=>.inl f⟩
       exact k _ _ p (B2.same (sN hp)) (f1.trans (Fr.same (sN hp))) rfl (s1.none_of (gC hp)) ac
 .walk_at"rx";exact aD (lb rfl) (no1 (by omega))
theorem EX {α:Type}(l:List α)(g:α->V)(i n:Nat):nz (l.map g) (some (i:Int)) (some ((i:Int)+(n:Int)))=((l.drop i).take n).map g:=by
 unfold nz;have e2:(i:Int)+(n:Int)=((i+n:Nat):Int):=by omega
 rw[e2,HT.sIx_nat,HT.sIx_nat,length_map,List.map_take,List.map_drop];by_cases h:i<=l.length
 .rw[Nat.min_eq_left h];by_cases h2:i+n<=l.length
  .rw[Nat.min_eq_left h2,Nat.add_sub_cancel_left]
  .rw[Nat.min_eq_right (by omega),take_of_length_le (by rw[length_drop,length_map];omega),take_of_length_le (by rw[length_drop,length_map];omega)]
 .rw[Nat.min_eq_right (by omega),Nat.min_eq_right (by omega),Nat.sub_self,take_zero,List.drop_eq_nil_of_le (by rw[length_map];omega),List.take_nil]
def gH (p:Vbpoal.Payment):Int×Int×Int:=((p.from_:Int),(p.to:Int),(p.amount:Int))
theorem qe (s:Vbpoal.State)(f:Int):Vbpoal.step s (.payments f)=if inside f 1 400=false then Vbpoal.no s 1 else yes s ((s.payments.drop (f.toNat-1)).take 50).length (((s.payments.drop (f.toNat-1)).take 50).map paymentRow):=rfl
theorem mL (T:Tx K mg ad fdt):aG P w K mg base bO 8 (ad .tell_payments) (fdt .tell_payments) ["book","arguments"] (n8 ad tp 17):=by
 have G_as_row:=cM (P:=P) (w:=w) (base:=base) T;have G_in_threes:=i5 (P:=P) (w:=w) (base:=base) T;refine T.f_tell_payments.fn.ok c9 (λvs H Q E h=>h.two) (λcdv A outer s H vs Q E hr h=>?_);obtain⟨B,st,aa,nums,rows,rfl,hB,wf,tab,ha,hask,k⟩:=h;obtain⟨f,rfl,rfl⟩:=jR (.inr (.inr (.inr (.inr (.inr (.inr (.inr rfl))))))) hask;have k:=k.plain hB tab;have k:eX ad H B (Vbpoal.step st (.payments f)).1 (flat (Vbpoal.step st (.payments f)).2) Q:=k;rw[qe]at k;have la:=ha.nums;obtain⟨dx,hb⟩:=hB.bk;walk_at"bk";refine⟨_,(ae (aq (i:=2) c9.nd rfl (Or.inl rfl) (bf aJ (pv 1) al (λ_ _=>rfl))) (ae (bg (dF (eD dw dw al (pv 2) (aS T.g_MOST_PAYMENTS))) (ai (ao (aw (ab (aS T.g_OUT_OF_RANGE) af)))) aE) (ae (aq (i:=3) c9.nd rfl (Or.inl rfl) (oP rR (am (pv 0) rfl) (k8 (aL d5 (pv 2) al)) (k8 (aL cD (aL d5 (pv 2) al) (aS T.g_MOST_TOLD))))) (ae (aq (i:=4) c9.nd rfl (Or.inl rfl) (aw (ab (aI ax (by rfl) T.n_len boot_len (ab (pv 3) af)) af))) (ae (ci PassesOwn.never rfl (bx (pv 3)) (aQ (i:=5) c9.nd rfl (Or.inl rfl)) (ai (aV (dz PySem.F.plainAttrs_list PySem.F.slot_list_extend PySem.F.type_list_extend dR (pv 4) (ab (bG T.f_as_row G_as_row (hr.mono (by decide)) (ab (bG T.f_in_threes G_in_threes (hr.mono (by decide)) (ab (aw (ab (pv 5) af)) af)) af)) af))))) (ai (ao (pv 4)))))))),?_⟩;walk_at"prep";walk_at"rx";refine bw (aR.of la) (aO (j:=0) rfl) ?_;have no1:¬(1<=f/\f<=400)->∀p,H p=none->Q (.ref p) (upd H p (.lst [.int (-1)])):=λh p hp=>by rw[if_pos (bv h)]at k;exact k.one hB H p (au.refl H) hp
 walk_at"rx";refine aY (λh1=>?_) (λh1=>?_)
 .walk_at"rx";refine dv (λh2=>?_) (λh2=>?_)
  .walk_at"rx";exact aD (lb rfl) (no1 (by omega))
  .rw[if_neg (by rw[az.mpr ⟨h1,h2⟩];decide)]at k;walk_at"rx";refine As (aR.of hB.pl) λla hla=>?_;have ef:f-1=((f.toNat-1:Nat):Int):=by omega
   have e50:(50:Int)=((50:Nat):Int):=rfl;rw[ef,e50,EX];have pp:Paired (fe (ad .Payment) H) ((B.ps.drop (f.toNat-1)).take 50) ((st.payments.drop (f.toNat-1)).take 50):=xU (xT hB.pp _) _;generalize hps:(B.ps.drop (f.toNat-1)).take 50=ps at *;generalize hpy:(st.payments.drop (f.toNat-1)).take 50=py at *;have lps:ps.length=py.length:=PySem.Paired.length pp;have l50:py.length<=50:=by rw[<- hpy,length_take];omega
   have s1:au H (upd H la (.lst (ps.map V.ref))):=sN hla;have hl1:upd H la (.lst (ps.map V.ref)) la=some (.lst (ps.map V.ref)):=ac;generalize upd H la (.lst (ps.map V.ref))=H1 at *;walk_at"rx";rw[length_map,lps];refine aD (lb rfl) λan han=>?_;have han0:=s1.none_of han;have s2:au H (upd H1 an (.lst [.int py.length])):=s1.trans (sN han);have hl2:upd H1 an (.lst [.int py.length]) la=some (.lst (ps.map V.ref)):=sN han _ _ hl1;have ha2:LI (upd H1 an (.lst [.int py.length])) an [(py.length:Int)]:=ac;have nla:la≠an:=aj hl1 han;generalize upd H1 an (.lst [.int py.length])=H2 at *;walk_at"rx";refine⟨la,rfl,⟨_,aR.of hl2⟩,?_⟩;refine bX (K:=K) (a:=la) (xs:=ps.map V.ref) (λi σ H'=>∃z5:Option V,σ=[some (.ref B.b),some (.ref aa),some (.int f),some (.ref la),some (.ref an),z5]/\au H H'/\H' la=some (.lst (ps.map V.ref))/\LI H' an ((py.length:Int)::(py.take i).flatMap λp=>3::paymentRow p))
    ⟨none,rfl,s2,hl2,ha2⟩ (λi σ H' _ ⟨_,_,_,e,_⟩=>aR.of e) ?_ ?_
   .rintro i y σ H3 hi ⟨z5,rfl,s3,hl3,ha3⟩;obtain⟨c,hc,rfl⟩:=bb hi;obtain⟨x,hx,⟨dx',hcx⟩⟩:=dj pp hc;have il:i<py.length:=(List.getElem?_eq_some_iff.mp hx).1;have hcx3:=s3 _ _ hcx;have ha3':H3 an=some (.lst (((py.length:Int)::(py.take i).flatMap λp=>3::paymentRow p).map V.int)):=ha3;walk_at"rx";refine aD (lb rfl) λu hu=>?_;walk_at"rx";refine⟨u,[c],[gH x],rfl,ac,lb rfl,.cons ⟨dx',sN hu _ _ hcx3⟩ .nil,λH4 p4 s4 hp4 hl4=>?_⟩;walk_at"rx";refine⟨p4,za [gH x],rfl,hl4,lb rfl,λH5 p5 s5 hp5 hl5=>?_⟩;have s35:au H3 H5:=((sN hu).trans s4).trans s5;have ha5:=s35 _ _ ha3;walk_at"rx";refine lh ha5 hl5 ?_ ?_
    .rw[length_map,length_map,length_cons,sizeLine_eq];have:((py.take i).flatMap λp=>3::paymentRow p).length=4*(py.take i).length:=by
      generalize py.take i=l
      induction l with
      |nil=>rfl
      |cons x l ih=>rw[List.flatMap_cons,length_append,ih];show 4+_=4*(l.length+1);omega
     rw[this,length_take];show _+1+4<=_;omega
    .refine⟨_,rfl,(s3.trans s35).upd_new han0,(ah nla).trans (s35 _ _ hl3),?_⟩;show upd _ _ _ _=_;rw[ac,aT hx,List.flatMap_append];simp[za,gH,paymentRow,Vbpoal.ints]
   .rintro σ H3 ⟨z5,rfl,s3,hl3,ha3⟩;rw[length_map,lps,take_length]at ha3;walk_at"rx";have e:flat (yes st py.length (py.map paymentRow)).2=(py.length:Int)::py.flatMap λp=>3::paymentRow p:=by show(py.length:Int)::(py.map paymentRow).flatMap (λr=>(r.length:Int)::r)=_;rw[List.flatMap_map];rfl
    rw[e]at k;exact k.same hB s3 han0 ha3
 .walk_at"rx";exact aD (lb rfl) (no1 (by omega))
theorem sX {b:Bytes}{t:Vbpoal.Told}(h:readTold b = .ok t):(1<=t.from_/\t.from_<=10)/\(1<=t.to/\t.to<=10)/\t.lines.length<=10/\∀x∈t.lines,d8 (aM x):=by
 unfold readTold at h;cases e0:Vbpoal.linesOf b with
 |nil=>rw[e0]at h;cases h
 |cons f l=>
  rw[e0]at h;cases e1:readOne "FROM" f with
  |none=>simp only[e1]at h;cases h
  |some a=>
   simp only[e1]at h;cases l with
   |nil=>cases h
   |cons g l=>
    cases e2:readOne "TO" g with
    |none=>simp only[e2]at h;cases h
    |some c=>
     simp only[e2]at h;by_cases e3:a=c
     .rw[if_pos e3]at h;cases h
     .rw[if_neg e3]at h;cases e4:readLines 3 [] l with
      |error k=>simp only[e4]at h;cases h
      |ok ls=>
       simp only[e4]at h;cases h;obtain⟨q1,q2⟩:=uN l 3 [] ls e4 (zero_le _) (λ_ z=>by cases z);exact⟨hJ e1,hJ e2,q1,q2⟩
structure Tm (P:Program)(w:World)(K:PySem.W.Frag)(mg:Str->Option Value)(eb hb:Addr):Prop where
 r_HOUSE_BOUNDS:mg "HOUSE_BOUNDS"=some (.ref hb)
 b_HOUSE_BOUNDS:my K hb [(1,10)]
 r_ENTRY_BOUNDS:mg "ENTRY_BOUNDS"=some (.ref eb)
 b_ENTRY_BOUNDS:∃d1 d2 d3,gO P w K eb [(.inr "DUES",.ref d1),(.inr "TRANSIT",.ref d2),(.inr "ORDERS",.ref d3)]/\my K d1 b1/\my K d2 b2/\my K d3 b3
section
variable {P:Program}{w:World}{K:PySem.W.Frag}{mg:Str->Option Value}{base:Heap}{ad:Fn->Addr}{fdt:Fn->FuncData}{tp eb hb:Addr}
theorem xV (T:Tx K mg ad fdt)(M:Tm P w K mg eb hb):aG P w K mg base bO 5 (ad .read_text) (fdt .read_text) ["text"] (AK K (ad .Reading) (ad .Entry)):=by have G1:aG P w K mg base bO 2 (ad .numbers_behind) (fdt .numbers_behind) ["name","words","bounds"] (sy K):=lD T.f_numbers_behind.fn ⟨⟨T.n_len,T.g_MOST_DIGITS,T.g_DIGIT_0,T.g_DIGIT_9⟩,T.f_number_of,T.f_bytes_of,T.n_zip,T.n_ord⟩;have G2:aG P w K mg base bO 3 (ad .house_behind) (fdt .house_behind) ["name","words"] sA:=nB T.f_house_behind.fn ⟨T.f_numbers_behind,M.r_HOUSE_BOUNDS,M.b_HOUSE_BOUNDS⟩ G1;have G3:aG P w K mg base bO 3 (ad .take_entry) (fdt .take_entry) ["reading","words"] (sB K (ad .Reading) (ad .Entry)):=pY T.f_take_entry.fn ⟨T.f_numbers_behind,M.r_ENTRY_BOUNDS,M.b_ENTRY_BOUNDS,T.k_Reading,T.n_Reading_entries,⟨T.k_Entry,T.n_Entry_name,T.n_Entry_numbers⟩,T.c_Entry,T.i_Entry,T.b_Entry⟩ G1;have G4:aG P w K mg base bO 4 (ad .take_line) (fdt .take_line) ["reading","place","words"] (vV K (ad .Reading) (ad .Entry)):=sC T.f_take_line.fn ⟨T.f_house_behind,T.f_take_entry,T.g_FROM_PLACE,T.g_TO_PLACE,T.g_LAST_PLACE,T.k_Reading,T.n_Reading_wrong_line,T.n_Reading_sender,T.n_Reading_receiver,T.n_Reading_entries⟩ G2 G3;have G5:aG P w K mg base bO 1 (ad .parts_between) (fdt .parts_between) ["numbers","mark"] (nW K):=iA T.f_parts_between.fn;have G6:aG P w K mg base bO 2 (ad .words_of) (fdt .words_of) ["line"] (sw K):=uG T.f_words_of.fn ⟨T.f_parts_between,T.n_len,T.g_BLANK⟩;exact sD T.f_read_text.fn ⟨T.f_parts_between,T.f_words_of,T.f_take_line,T.g_LINE_END,T.n_enumerate,T.n_len,⟨T.k_Reading,T.n_Reading_wrong_line,T.n_Reading_sender,T.n_Reading_receiver,T.n_Reading_entries⟩,T.c_Reading,T.i_Reading,T.b_Reading⟩ G5 G6 G4
theorem Dc (T:Tx K mg ad fdt):aG P w K mg base bO 3 (ad .full_figure) (fdt .full_figure) ["entries","rates","moneys"] (AM K (ad .Rates) (ad .Entry)):=o6 T.f_full_figure.fn T.f_worth_of (uJ T.f_worth_of.fn ⟨T.f_dues,T.f_transit,T.f_orders,T.g_GRAMS_IN_KILOGRAM,T.g_MILLION,T.tra,⟨T.k_Entry,T.n_Entry_name,T.n_Entry_numbers⟩⟩)
theorem zf {s:Vbpoal.State}{r:List Int}{bs:Bytes}(h:bytes? r=some bs):VbpoalNeutral.step s [[4],r]=((Vbpoal.step s (.send bs)).1,flat (Vbpoal.step s (.send bs)).2):=by show(match (bytes? r).map Vbpoal.Call.send with|none=>(s,[])|some c=>((Vbpoal.step s c).1,flat (Vbpoal.step s c).2))=_;rw[h];rfl
theorem wz {s:Vbpoal.State}{r:List Int}{bs:Bytes}(h:bytes? r=some bs):VbpoalNeutral.step s [[16],r]=((Vbpoal.step s (.read bs)).1,flat (Vbpoal.step s (.read bs)).2):=by show(match (bytes? r).map Vbpoal.Call.read with|none=>(s,[])|some c=>((Vbpoal.step s c).1,flat (Vbpoal.step s c).2))=_;rw[h];rfl
theorem zg {s:Vbpoal.State}{ls:List Line}(h:jQ (dD s) (ls.map aM)=true):∃x∈ls,¬fz (dD s) (aM x):=by unfold jQ at h;obtain⟨e,he,q⟩:=List.any_eq_true.mp h;obtain⟨x,hx,rfl⟩:=mem_map.mp he;rw[and_eq_true,decide_eq_true_eq]at q;refine⟨x,hx,λz=>?_⟩;rw[z q.1]at q;exact absurd q.2 (by decide)
theorem vf {s:Vbpoal.State}{ls:List Line}(h:jQ (dD s) (ls.map aM)=false):∀x∈ls,fz (dD s) (aM x):=by
 intro x hx e;unfold jQ at h;have:=List.any_eq_false.mp h (aM x) (mem_map.mpr ⟨x,hx,rfl⟩);rw[decide_eq_true e,Bool.true_and]at this;cases q:(dD s (qQ (aM x).2 0)).isSome with
 |true=>rfl
 |false=>rw[q]at this;exact absurd rfl this
theorem Dd (T:Tx K mg ad fdt)(M:Tm P w K mg eb hb):aG P w K mg base bO 8 (ad .send) (fdt .send) ["book","arguments"] (n8 ad tp 4):=by
 have G_read_text:=xV (base:=base) T M;have G_refusal_of_text:=xR (P:=P) (w:=w) (base:=base) T;have G_Book_has_house:=dW (P:=P) (w:=w) (base:=base) T;have G_lacks_money_rate:=Bx (P:=P) (w:=w) (base:=base) T;have G_Book_rates_of:=u1 (P:=P) (w:=w) (base:=base) T;have G_full_figure:=Dc (P:=P) (w:=w) (base:=base) T;have G_Book_take_statement:=lN (P:=P) (w:=w) (base:=base) T;have G_as_row:=cM (P:=P) (w:=w) (base:=base) T;refine T.f_send.fn.ok lB (λvs H Q E h=>h.two) (λcdv A outer s H vs Q E hr h=>?_);obtain⟨B,st,aa,nums,rows,rfl,hB,wf,tab,ha,hask,k⟩:=h;obtain⟨r,rfl,rfl⟩:=wt (.inl rfl) hask;have k:=k.plain hB tab;obtain⟨bs,eb1,eb2,eb3,eb4⟩:=xC hask;rw[zf eb1]at k;have k:eX ad H B (if decide (bs.length<=1000)=false then Vbpoal.no st 1 else doSend st bs).1 (flat (if decide (bs.length<=1000)=false then Vbpoal.no st 1 else doSend st bs).2) Q:=k;obtain⟨ta,hta,hr1⟩:=ha.row;obtain⟨dx,hb⟩:=hB.bk;walk_at"bk";have kR:=T.k_Reading;have m1:=T.n_Reading_wrong_line;have m2:=T.n_Reading_sender;have m3:=T.n_Reading_receiver;have m4:=T.n_Reading_entries;refine⟨_,(ae (aq (i:=2) lB.nd rfl (Or.inl rfl) (bG T.f_read_text G_read_text (hr.mono (by decide)) (ab (bf aJ (pv 1) al (λ_ _=>rfl)) af))) (ae (aq (i:=3) lB.nd rfl (Or.inl rfl) (bG T.f_refusal_of_text G_refusal_of_text (hr.mono (by decide)) (ab (bf aJ (pv 1) al (λ_ _=>rfl)) (ab (pv 2) af)))) (ae (bg (ay k7 (pv 3) al (aB _)) (ai (ao (aw (ab (pv 3) af)))) aE) (ae (bg (dF (PW.pt (eC (d4 (cj (pv 0) T.k_Book T.m_Book_has_house G_Book_has_house (hr.mono (by decide)) (ab (am (pv 2) rfl) af))) (dQ (d4 (cj (pv 0) T.k_Book T.m_Book_has_house G_Book_has_house (hr.mono (by decide)) (ab (am (pv 2) rfl) af))))))) (ai (ao (aw (ab (aS T.g_NOT_THERE) af)))) aE) (ae (bg (d4 (bG T.f_lacks_money_rate G_lacks_money_rate (hr.mono (by decide)) (ab (pv 0) (ab (am (pv 2) rfl) af)))) (ai (ao (aw (ab (aS T.g_NO_RATE) af)))) aE) (ae (aq (i:=4) lB.nd rfl (Or.inl rfl) (bG T.f_full_figure G_full_figure (hr.mono (by decide)) (ab (am (pv 2) rfl) (ab (cj (pv 0) T.k_Book T.m_Book_rates_of G_Book_rates_of (hr.mono (by decide)) (ab (am (pv 2) rfl) af)) (ab (am (pv 0) rfl) af))))) (ae (bg (ay fP (pv 4) (aS T.g_MOST_FIGURE) (aB _)) (ai (ao (aw (ab (aS T.g_NOT_SO) af)))) aE) (ae (bg (ay qu (aI ax (by rfl) T.n_len boot_len (ab (am (pv 0) rfl) af)) (aS T.g_MOST_STATEMENTS) (aB _)) (ai (ao (aw (ab (aS T.g_TOO_MANY) af)))) aE) (ae (aq (i:=5) lB.nd rfl (Or.inl rfl) (cj (pv 0) T.k_Book T.m_Book_take_statement G_Book_take_statement (hr.mono (by decide)) (ab (am (pv 2) rfl) (ab (am (pv 2) rfl) (ab (pv 4) af))))) (ai (ao (aL d9 (aw (ab (pv 5) af)) (bG T.f_as_row G_as_row (hr.mono (by decide)) (ab (aw (ab (pv 4) af)) af)))))))))))))),?_⟩;walk_at"prep";walk_at"rx";refine bw (aR.of hta) (aO (j:=0) rfl) ?_;walk_at"rx";refine⟨ta,r,rfl,LI.seq hr1,eb4,λH1 ra ea es s1 hra0 hea0 hes R=>?_⟩;have hta1:=s1 _ _ hta;have hr1':=LI.same s1 hr1;have B1:=hB.same s1;have hb1:=s1 _ _ hb;obtain⟨dxr,hra⟩:=R.obj;walk_at"rx";refine bw (aR.of hta1) (aO (j:=0) rfl) ?_;walk_at"rx";refine⟨ta,ra,ea,r,_,_,_,es,_,rfl,hr1',R,?_⟩;have re:=xA bs;rw[eb2]at re;by_cases hlen:1000<r.length
 .rw[if_pos hlen];rw[if_pos (decide_eq_false (by omega))]at k;walk_at"rx";refine aY (λh1=>?_) (λh1=>absurd (by decide) h1);walk_at"rx";exact aD (lb rfl) λp hp=>k.one hB H1 p s1 hp
 .rw[if_neg hlen];rw[if_neg (by rw[decide_eq_true (by omega)];decide)]at k;unfold doSend at k;cases et:readTold bs with
  |error j=>
   rw[et]at k re;have re:(fF r).1=(j:Int)/\0<j:=re;rw[re.1,if_pos (by omega)];have k:eX ad H B st [-((1000+j:Nat):Int)] Q:=k;rw[show -((1000+j:Nat):Int) = -1000-(j:Int)by omega]at k;walk_at"rx";refine aY (λh1=>?_) (λh1=>absurd (by omega) h1);walk_at"rx";exact aD (lb rfl) λp hp=>k.one hB H1 p s1 hp
  |ok t=>
   rw[et]at k re;have re:fF r=(0,(t.from_:Int),(t.to:Int),t.lines.map aM):=re;have k:eX ad H B (if st.houses.length<t.from_\/st.houses.length<t.to then Vbpoal.no st 4 else match fullOf st t with|none=>Vbpoal.no st 3|some n=>if MOST<n then Vbpoal.no st 7 else if STATEMENTS<=st.statements.length then Vbpoal.no st 8 else yes { st with statements:=st.statements++[⟨t.from_,t.to,st.day,n,1,0,0⟩] } (st.statements.length+1) [[(n:Int)]]).1 (flat (if st.houses.length<t.from_\/st.houses.length<t.to then Vbpoal.no st 4 else match fullOf st t with|none=>Vbpoal.no st 3|some n=>if MOST<n then Vbpoal.no st 7 else if STATEMENTS<=st.statements.length then Vbpoal.no st 8 else yes { st with statements:=st.statements++[⟨t.from_,t.to,st.day,n,1,0,0⟩] } (st.statements.length+1) [[(n:Int)]]).2) Q:=k;rw[re]at R hra ⊢;have R:kO (ad .Reading) (ad .Entry) H1 ra ea 0 (t.from_:Int) (t.to:Int) es (t.lines.map aM):=R;have hra:H1 ra=some (.ins (ad .Reading) dxr (Ey 0 (t.from_:Int) (t.to:Int) ea)):=hra;obtain⟨ok1,ok2,ok3,ok4⟩:=sX et;rw[if_neg (show¬(0:Int)<(0,(t.from_:Int),(t.to:Int),t.lines.map aM).1 by show¬(0:Int)<0;decide)];walk_at"rx";refine aY (λh1=>absurd h1 (by decide)) (λ_=>?_);walk_at"rx";refine⟨B,st,(t.from_:Int),rfl,B1,?_⟩;cases e1:isHouse st (t.from_:Int)with
   |false=>
    rw[if_pos (.inl (by
     have:¬(1<=(t.from_:Int)/\(t.from_:Int)<=(st.houses.length:Int)):=λz=>by rw[show isHouse st (t.from_:Int)=true from az.mpr z]at e1;cases e1
     omega))]at k
    walk_at"rx";exact aD (lb rfl) λp hp=>k.one hB H1 p s1 hp
   |true=>
    walk_at"rx";refine⟨B,st,(t.to:Int),rfl,B1,?_⟩;cases e2:isHouse st (t.to:Int)with
    |false=>
     rw[if_pos (.inr (by
      have:¬(1<=(t.to:Int)/\(t.to:Int)<=(st.houses.length:Int)):=λz=>by rw[show isHouse st (t.to:Int)=true from az.mpr z]at e2;cases e2
      omega))]at k
     walk_at"rx";exact aD (lb rfl) λp hp=>k.one hB H1 p s1 hp
    |true=>
     have i1:=az.mp e1;have i2:=az.mp e2;rw[if_neg (by omega)]at k;have ok4':∀x∈t.lines.map aM,d8 x:=λx hx=>by obtain⟨y,hy,rfl⟩:=mem_map.mp hx;exact ok4 y hy
     walk_at"rx";refine⟨B,st,ea,es,t.lines.map aM,rfl,B1,R.lst,R.ents,ok4',?_⟩;cases e3:jQ (dD st) (t.lines.map aM)with
     |true=>
      rw[yJ st t (zg e3)]at k;walk_at"rx";exact aD (lb rfl) λp hp=>k.one hB H1 p s1 hp
     |false=>
      obtain⟨n,f1,f2⟩:=CI st t (vf e3);rw[f1]at k;walk_at"rx";refine⟨B,st,t.from_,rfl,B1,by omega,λro hro=>?_⟩;obtain⟨kvs,hm,_,hkv⟩:=B1.mo;walk_at"rx";refine⟨ea,ro,B.ma,es,t.lines.map aM,jM (houseAt st t.from_),dD st,rfl,R.lst,R.ents,λx hx=>?_,by rw[length_map];exact ok3,hro,?_,⟨kvs,hm,hkv⟩,λkk z hz=>?_,λH2 s2=>?_⟩
      .obtain⟨y,hy,rfl⟩:=mem_map.mp hx;exact⟨ok4 y hy,vf e3 y hy⟩
      .exact wf.hr _ (mem_of_getElem? (u0 (s:=st) (h:=t.from_) (by omega)))
      .unfold dD rateOf at hz;cases q:st.rates.find? λr=>r.1==kk.toNat with
       |none=>rw[q]at hz;cases hz
       |some y=>
        rw[q]at hz;cases hz;have:=(wf.rk y (List.mem_of_find?_eq_some q)).2;show 0<=((y.2:Nat):Int)/\((y.2:Nat):Int)<=100000000;omega
      .rw[f2];have s12:=s1.trans s2;have B2:=hB.same s12;have hb2:=s12 _ _ hb;have hra2:=s2 _ _ hra;have hsl2:=B2.sl;have ls:=hB.len_ss;have eM:MOST=1000000000000:=rfl;have eS:STATEMENTS=100:=rfl;have k:eX ad H B (if MOST<n then Vbpoal.no st 7 else if STATEMENTS<=st.statements.length then Vbpoal.no st 8 else yes { st with statements:=st.statements++[⟨t.from_,t.to,st.day,n,1,0,0⟩] } (st.statements.length+1) [[(n:Int)]]).1 (flat (if MOST<n then Vbpoal.no st 7 else if STATEMENTS<=st.statements.length then Vbpoal.no st 8 else yes { st with statements:=st.statements++[⟨t.from_,t.to,st.day,n,1,0,0⟩] } (st.statements.length+1) [[(n:Int)]]).2) Q:=k;walk_at"rx";refine aY (λh1=>?_) (λh1=>?_)
       .rw[if_pos (by omega)]at k;walk_at"rx";exact aD (lb rfl) λp hp=>k.one hB H2 p s12 hp
       .rw[if_neg (by omega)]at k;walk_at"rx";rw[length_map,ls];refine aY (λh2=>?_) (λh2=>?_)
        .rw[if_pos (by omega)]at k;walk_at"rx";exact aD (lb rfl) λp hp=>k.one hB H2 p s12 hp
        .rw[if_neg (by omega)]at k;walk_at"rx";refine⟨B,st,t.from_,t.to,n,rfl,B2,by omega,λH3 B3 hB3 f3 eb3' sub3=>?_⟩;walk_at"rx";refine aD (lb rfl) λu hu=>?_;have hu1:LI (upd H3 u (.lst [.int ((st.statements.length+1:Nat):Int)])) u [((st.statements.length+1:Nat):Int)]:=ac;have s3:au H3 (upd H3 u (.lst [.int ((st.statements.length+1:Nat):Int)])):=sN hu;generalize upd H3 u (.lst [.int ((st.statements.length+1:Nat):Int)])=H4 at *;walk_at"rx";refine aD (lb rfl) λv hv=>?_;walk_at"rx";refine⟨v,[(n:Int)],rfl,ac,lb rfl,λH5 p5 s5 hp5 hl5=>?_⟩;refine fy (xs:=[((st.statements.length+1:Nat):Int)]) (LI.same s5 (LI.same (sN hv) hu1)) hl5 (lb rfl) λH6 p6 s6 hp6 hl6=>?_;have s7:=(s3.trans (sN hv)).trans s5;have fr:Fr H B H3 B3:=(Fr.same s12).trans f3;have hp0:H p6=none:=by
          have z:=s7.none_of hp6;cases q:H p6 with
          |none=>rfl
          |some o=>
           by_cases g:B.F p6
           .rcases hB3.kind (sub3 _ g)with⟨_,_,_,e⟩|⟨_,e⟩|⟨_,e⟩<;>rw[e]at z<;>cases z
           .rw[fr.keep p6 o q g]at z;cases z
         exact k H6 B3 p6 (hB3.same (s7.trans s6)) (fr.trans (Fr.same (s7.trans s6))) eb3' hp0 hl6
theorem vg (T:Tx K mg ad fdt)(M:Tm P w K mg eb hb):aG P w K mg base bO 8 (ad .read_out) (fdt .read_out) ["book","arguments"] (n8 ad tp 16):=by
 have G_read_text:=xV (base:=base) T M;have G_refusal_of_text:=xR (P:=P) (w:=w) (base:=base) T;have G_written:=wq (P:=P) (w:=w) (base:=base) T;have G_as_row:=cM (P:=P) (w:=w) (base:=base) T;refine T.f_read_out.fn.ok jJ (λvs H Q E h=>h.two) (λcdv A outer s H vs Q E hr h=>?_);obtain⟨B,st,aa,nums,rows,rfl,hB,wf,tab,ha,hask,k⟩:=h;obtain⟨r,rfl,rfl⟩:=wt (.inr (.inr rfl)) hask;have k:=k.plain hB tab;obtain⟨bs,eb1,eb2,eb3,eb4⟩:=xC hask;rw[wz eb1]at k;have k:eX ad H B (if decide (bs.length<=1000)=false then Vbpoal.no st 1 else(match readTold bs with|.error k=>Vbpoal.no st (1000+k)|.ok t=>yes st t.lines.length [Vbpoal.bytes (toldText t)])).1 (flat (if decide (bs.length<=1000)=false then Vbpoal.no st 1 else(match readTold bs with|.error k=>Vbpoal.no st (1000+k)|.ok t=>yes st t.lines.length [Vbpoal.bytes (toldText t)])).2) Q:=k;obtain⟨ta,hta,hr1⟩:=ha.row;have kR:=T.k_Reading;have m1:=T.n_Reading_wrong_line;have m2:=T.n_Reading_sender;have m3:=T.n_Reading_receiver;have m4:=T.n_Reading_entries;refine⟨_,(ae (aq (i:=2) jJ.nd rfl (Or.inl rfl) (bG T.f_read_text G_read_text (hr.mono (by decide)) (ab (bf aJ (pv 1) al (λ_ _=>rfl)) af))) (ae (aq (i:=3) jJ.nd rfl (Or.inl rfl) (bG T.f_refusal_of_text G_refusal_of_text (hr.mono (by decide)) (ab (bf aJ (pv 1) al (λ_ _=>rfl)) (ab (pv 2) af)))) (ae (bg (ay k7 (pv 3) al (aB _)) (ai (ao (aw (ab (pv 3) af)))) aE) (ai (ao (aL d9 (aw (ab (aI ax (by rfl) T.n_len boot_len (ab (am (pv 2) rfl) af)) af)) (bG T.f_as_row G_as_row (hr.mono (by decide)) (ab (bG T.f_written G_written (hr.mono (by decide)) (ab (pv 2) af)) af)))))))),?_⟩;walk_at"prep";walk_at"rx";refine bw (aR.of hta) (aO (j:=0) rfl) ?_;walk_at"rx";refine⟨ta,r,rfl,LI.seq hr1,eb4,λH1 ra ea es s1 hra0 hea0 hes R=>?_⟩;have hta1:=s1 _ _ hta;have hr1':=LI.same s1 hr1;obtain⟨dxr,hra⟩:=R.obj;walk_at"rx";refine bw (aR.of hta1) (aO (j:=0) rfl) ?_;walk_at"rx";refine⟨ta,ra,ea,r,_,_,_,es,_,rfl,hr1',R,?_⟩;have re:=xA bs;rw[eb2]at re;by_cases hlen:1000<r.length
 .rw[if_pos hlen];rw[if_pos (decide_eq_false (by omega))]at k;walk_at"rx";refine aY (λh1=>?_) (λh1=>absurd (by decide) h1);walk_at"rx";exact aD (lb rfl) λp hp=>k.one hB H1 p s1 hp
 .rw[if_neg hlen];rw[if_neg (by rw[decide_eq_true (by omega)];decide)]at k;cases et:readTold bs with
  |error j=>
   rw[et]at k re;have re:(fF r).1=(j:Int)/\0<j:=re;rw[re.1,if_pos (by omega)];have k:eX ad H B st [-((1000+j:Nat):Int)] Q:=k;rw[show -((1000+j:Nat):Int) = -1000-(j:Int)by omega]at k;walk_at"rx";refine aY (λh1=>?_) (λh1=>absurd (by omega) h1);walk_at"rx";exact aD (lb rfl) λp hp=>k.one hB H1 p s1 hp
  |ok t=>
   rw[et]at k re;have re:fF r=(0,(t.from_:Int),(t.to:Int),t.lines.map aM):=re;have k:eX ad H B st ((t.lines.length:Int)::((Vbpoal.bytes (toldText t)).length:Int)::(Vbpoal.bytes (toldText t)++[])) Q:=k;rw[append_nil]at k;rw[re]at R hra ⊢;have R:kO (ad .Reading) (ad .Entry) H1 ra ea 0 (t.from_:Int) (t.to:Int) es (t.lines.map aM):=R;have hra:H1 ra=some (.ins (ad .Reading) dxr (Ey 0 (t.from_:Int) (t.to:Int) ea)):=hra;have hea:=R.lst;obtain⟨ok1,ok2,ok3,ok4⟩:=sX et;have ok4':∀x∈t.lines.map aM,d8 x:=λx hx=>by obtain⟨y,hy,rfl⟩:=mem_map.mp hx;exact ok4 y hy
   have o1:dZ (t.from_:Int):=⟨by omega,by omega⟩
   have o2:dZ (t.to:Int):=⟨by omega,by omega⟩
   have les:es.length=t.lines.length:=by have:=PySem.Paired.length R.ents;rw[length_map]at this;exact this
   rw[if_neg (show¬(0:Int)<(0,(t.from_:Int),(t.to:Int),t.lines.map aM).1 by show¬(0:Int)<0;decide)];walk_at"rx";refine aY (λh1=>absurd h1 (by decide)) (λ_=>?_);walk_at"rx";rw[length_map,les];refine aD (lb rfl) λu hu=>?_;have s2:au H1 (upd H1 u (.lst [.int t.lines.length])):=sN hu;have hu1:LI (upd H1 u (.lst [.int t.lines.length])) u [(t.lines.length:Int)]:=ac;generalize upd H1 u (.lst [.int t.lines.length])=H2 at *;walk_at"rx";refine⟨ra,ea,(t.from_:Int),(t.to:Int),es,t.lines.map aM,rfl,R.same s2,ok4',by rw[length_map];exact ok3,o1,o2,λH3 q s3 hq hl3=>?_⟩;rw[rj t o1 o2 ok4]at hl3;have lt:(Vbpoal.bytes (toldText t)).length<=1000:=by rw[<- rj t o1 o2 ok4];have:=u7 o1 o2 ok4' (by rw[length_map];exact ok3);unfold bq;rw[length_map];rw[TL.len_tl]at this;exact this
   walk_at"rx";refine⟨q,_,rfl,hl3,by omega,λH4 p4 s4 hp4 hl4=>?_⟩;refine fy (xs:=[(t.lines.length:Int)]) (LI.same s4 (LI.same s3 hu1)) hl4 (by show 1+((Vbpoal.bytes (toldText t)).length+1)<=5000;omega) λH5 p5 s5 hp5 hl5=>?_;have s6:=((s1.trans s2).trans s3).trans s4;exact k.same hB (s6.trans s5) (s6.none_of hp5) hl5
end
theorem wA {α β γ:Type}{R:α->β->Prop}{S:α->γ->Prop}(g:β->γ)(h:∀a b,R a b->S a (g b)):∀{as:List α} {bs:List β},Paired R as bs->Paired S as (bs.map g)
 |_,_,.nil=>.nil
 |_,_,.cons r t=>.cons (h _ _ r) (wA g h t)
theorem lQ:∀l:List Vbpoal.Payment,za (l.map gH)=l.flatMap paymentRow
 |[]=>rfl
 |x::l=>by show[((x.from_:Nat):Int),(x.to:Int),(x.amount:Int)]++za (l.map gH)=paymentRow x++l.flatMap paymentRow;rw[lQ l];rfl
theorem sY:∀l:List Vbpoal.Payment,((l.map gH).map (·.2.2)).sum=((Vbpoal.nsum (l.map λp=>p.amount):Nat):Int)
 |[]=>rfl
 |x::l=>by show(x.amount:Int)+((l.map gH).map (·.2.2)).sum=((x.amount+Vbpoal.nsum (l.map λp=>p.amount):Nat):Int);rw[sY l];omega
theorem gD {s:Vbpoal.State}(wf:Wf s):Vbpoal.groups s=Vbpoal.parted ((lU s.houses.length (mv (cf s))).length+1) (lU s.houses.length (mv (cf s))):=by unfold Vbpoal.groups;rw[iI wf.si wf.pi,Bg]
theorem pL {s:Vbpoal.State}(wf:Wf s):Vbpoal.isum (bV (lU s.houses.length (mv (cf s))))=0:=by have:=zy wf.si wf.pi;rw[iI wf.si wf.pi,Bg]at this;exact this
theorem aA.mono {H H':Hp}{B:BA}{s:Vbpoal.State}(h:aA ad H B s)(e:∀a o,H a=some o->(∀ps,o≠.tbl ps)->H' a=some o):aA ad H' B s:=by
 obtain⟨⟨dx,a1⟩,a2,a3,⟨kvs,a4,a5⟩,a6,a7,a8,a9,a10,a11⟩:=h;have n1:∀{C d fs ps},HO.ins C d fs≠.tbl ps:=λ{_ _ _ _} z=>by cases z
 have n2:∀{xs ps},HO.lst xs≠.tbl ps:=λ{_ _} z=>by cases z
 have n3:∀{kv ps},HO.dK kv≠.tbl ps:=λ{_ _} z=>by cases z
 exact⟨⟨dx,e _ _ a1 λ_=>n1⟩,e _ _ a2 λ_=>n2,aK a3 λ_ _ _ ⟨d,q⟩=>⟨d,e _ _ q λ_=>n1⟩,⟨kvs,e _ _ a4 λ_=>n3,a5⟩,e _ _ a6 λ_=>n2,aK a7 λ_ _ _ ⟨d,q⟩=>⟨d,e _ _ q λ_=>n1⟩,a8,e _ _ a9 λ_=>n2,aK a10 λ_ _ _ ⟨d,q⟩=>⟨d,e _ _ q λ_=>n1⟩,a11⟩
theorem bW.not_tbl {H H':Hp}(e:bW tp H H')(t:fx tp H):∀a o,H a=some o->(∀ps,o≠.tbl ps)->H' a=some o:=λa o q n=>e a o q λz=>by obtain⟨ps,h⟩:=dY.there t;rw[z,h]at q;exact n ps (Option.some.inj q).symm
theorem aA.sameB {H H':Hp}{B:BA}{s:Vbpoal.State}(h:aA ad H B s)(e:bW tp H H')(t:fx tp H):aA ad H' B s:=h.mono (Pc.bW.not_tbl e t)
theorem zc.sameB {H H':Hp}{B:BA}{s:Vbpoal.State}{ans:List Int}{Q:VK}{la:Addr}(r:zc ad tp H B s ans Q)(h:aA ad H B s)(t:fx tp H)(e:bW tp H H')(t':fx tp H')(n:H la=none)(l:LI H' la ans):Q (.ref la) H':=r H' B la (h.sameB e t) ⟨λa o q _ nt=>e a o q nt,λa f=>.inl f⟩ rfl t' n l
theorem zh {s:Vbpoal.State}:VbpoalNeutral.step s [[12]]=(s,((Vbpoal.plan s).length:Int)::((((Vbpoal.plan s).flatMap paymentRow).length:Int)::(Vbpoal.plan s).flatMap paymentRow)++[1,((Vbpoal.nsum ((Vbpoal.plan s).map λp=>p.amount):Nat):Int)]):=by show(s,((Vbpoal.plan s).length:Int)::(((((Vbpoal.plan s).flatMap paymentRow).length:Int)::(Vbpoal.plan s).flatMap paymentRow)++([1,((Vbpoal.nsum ((Vbpoal.plan s).map λp=>p.amount):Nat):Int)]++[])))=_;rw[append_nil];rfl
theorem sZ (T:Tx K mg ad fdt)(TF:uX mg base fdt tc tp):aG P w K mg base bO 8 (ad .tell_plan) (fdt .tell_plan) ["book","arguments"] (n8 ad tp 12):=by
 have G_plan_payments:=xN (P:=P) (w:=w) T TF;have G_Book_reckon_positions:=iC (P:=P) (w:=w) (base:=base) T;have G_as_row:=cM (P:=P) (w:=w) (base:=base) T;have G_in_threes:=i5 (P:=P) (w:=w) (base:=base) T;have G_sum_of:=rm (P:=P) (w:=w) (base:=base) T;refine T.f_tell_plan.fn.ok lC (λvs H Q E h=>h.two) (λcdv A outer s H vs Q E hr h=>?_);obtain⟨B,st,aa,nums,rows,rfl,hB,wf,tab,ha,hask,k⟩:=h;obtain⟨rfl,rfl⟩:=sR (.inl rfl) hask;rw[zh]at k;obtain⟨dx,hb⟩:=hB.bk;have hn:=wf.n;walk_at"bk";refine⟨_,(ae (aq (i:=2) lC.nd rfl (Or.inl rfl) (bG T.f_plan_payments G_plan_payments (hr.mono (by decide)) (ab (ff (pv 0) T.k_Book T.m_Book_reckon_positions G_Book_reckon_positions (hr.mono (by decide))) af))) (ai (ao (aL d9 (aL d9 (aw (ab (aI ax (by rfl) T.n_len boot_len (ab (pv 2) af)) af)) (bG T.f_as_row G_as_row (hr.mono (by decide)) (ab (bG T.f_in_threes G_in_threes (hr.mono (by decide)) (ab (pv 2) af)) af))) (bG T.f_as_row G_as_row (hr.mono (by decide)) (ab (aw (ab (bG T.f_sum_of G_sum_of (hr.mono (by decide)) (ab (pv 2) af)) af)) af)))))),?_⟩;walk_at"prep";walk_at"rx";refine⟨B,st,rfl,hB,wf,λH1 p s1 hp hp1=>?_⟩;walk_at"rx";refine⟨p,_,_,rfl,hp1,hn.2,pL wf,tab.mono s1,λH2 q as sb t2 hq0 hq1 hal hpr=>?_⟩;rw[<- gD wf]at hpr;have hpr:Paired (fe (ad .Payment) H2) as (Vbpoal.plan st):=hpr;have las:as.length=(Vbpoal.plan st).length:=PySem.Paired.length hpr;have hprX:Paired (nH (ad .Payment) H2) as ((Vbpoal.plan st).map gH):=wA gH (λa b h=>h) hpr;have sbH:bW tp H H2:=λa o e nt=>sb a o (s1 _ _ e) nt;have q0:H q=none:=s1.none_of hq0;walk_at"rx";rw[length_map,las];refine aD (lb rfl) λu hu=>?_;have s3:au H2 (upd H2 u (.lst [.int (Vbpoal.plan st).length])):=sN hu;have hu1:LI (upd H2 u (.lst [.int (Vbpoal.plan st).length])) u [((Vbpoal.plan st).length:Int)]:=ac;generalize upd H2 u (.lst [.int (Vbpoal.plan st).length])=H3 at *;have pI:∀{H':Hp},au H2 H'->Paired (nH (ad .Payment) H') as ((Vbpoal.plan st).map gH):=λ{H'} e=>aK hprX λ_ _ _ ⟨d,z⟩=>⟨d,e _ _ z⟩
 have lpl:((Vbpoal.plan st).map gH).length<=500:=by rw[length_map];omega
 walk_at"rx";refine⟨q,as,(Vbpoal.plan st).map gH,rfl,s3 _ _ hq1,lpl,pI s3,λH4 p4 s4 hp4 hl4=>?_⟩;rw[lQ]at hl4;have l3:((Vbpoal.plan st).flatMap paymentRow).length=3*(Vbpoal.plan st).length:=by rw[<- lQ,nZ,length_map]
 walk_at"rx";refine⟨p4,_,rfl,hl4,by omega,λH5 p5 s5 hp5 hl5=>?_⟩;refine fy (xs:=[((Vbpoal.plan st).length:Int)]) (LI.same s5 (LI.same s4 hu1)) hl5 (by show 1+(((Vbpoal.plan st).flatMap paymentRow).length+1)<=5000;omega) λH6 p6 s6 hp6 hl6=>?_;have s36:=((s3.trans s4).trans s5).trans s6;walk_at"rx";refine⟨q,as,(Vbpoal.plan st).map gH,rfl,s36 _ _ hq1,lpl,pI s36,λH7 s7=>?_⟩;rw[sY];walk_at"rx";refine aD (lb rfl) λv hv=>?_;walk_at"rx";refine⟨v,[((Vbpoal.nsum ((Vbpoal.plan st).map λp=>p.amount):Nat):Int)],rfl,ac,lb rfl,λH8 p8 s8 hp8 hl8=>?_⟩;refine fy (LI.same s8 (LI.same (sN hv) (LI.same s7 hl6))) hl8 (by show(((Vbpoal.plan st).flatMap paymentRow).length+1+1)+2<=5000;omega) λH9 p9 s9 hp9 hl9=>?_;have s28:=((s36.trans s7).trans (sN hv)).trans s8;have s29:=s28.trans s9;have sbE:bW tp H H9:=λa o e nt=>s29 _ _ (sbH a o e nt);obtain⟨pz,hpz⟩:=dY.there t2;exact k.sameB hB tab sbE (dY.mono t2 s29) (Pc.bW.none_of sbH hpz (s28.none_of hp9)) hl9
theorem vh {s:Vbpoal.State}:VbpoalNeutral.step s [[14]]=((if (Vbpoal.plan s).isEmpty=true then Vbpoal.no s 6 else if PAYMENTS<s.payments.length+(Vbpoal.plan s).length then Vbpoal.no s 8 else yes { s with payments:=s.payments++Vbpoal.plan s } (Vbpoal.plan s).length [(Vbpoal.plan s).flatMap paymentRow]).1,flat (if (Vbpoal.plan s).isEmpty=true then Vbpoal.no s 6 else if PAYMENTS<s.payments.length+(Vbpoal.plan s).length then Vbpoal.no s 8 else yes { s with payments:=s.payments++Vbpoal.plan s } (Vbpoal.plan s).length [(Vbpoal.plan s).flatMap paymentRow]).2):=rfl
theorem zi (T:Tx K mg ad fdt)(TF:uX mg base fdt tc tp):aG P w K mg base bO 8 (ad .settle) (fdt .settle) ["book","arguments"] (n8 ad tp 14):=by
 have G_plan_payments:=xN (P:=P) (w:=w) T TF;have G_Book_reckon_positions:=iC (P:=P) (w:=w) (base:=base) T;have G_as_row:=cM (P:=P) (w:=w) (base:=base) T;have G_in_threes:=i5 (P:=P) (w:=w) (base:=base) T;have G_Book_take_payment:=jg (P:=P) (w:=w) (base:=base) T;refine T.f_settle.fn.ok mt (λvs H Q E h=>h.two) (λcdv A outer s H vs Q E hr h=>?_);obtain⟨B,st,aa,nums,rows,rfl,hB,wf,tab,ha,hask,k⟩:=h;obtain⟨rfl,rfl⟩:=sR (.inr (.inl rfl)) hask;rw[vh]at k;obtain⟨dx,hb⟩:=hB.bk;have hn:=wf.n;walk_at"bk";refine⟨_,(ae (aq (i:=2) mt.nd rfl (Or.inl rfl) (bG T.f_plan_payments G_plan_payments (hr.mono (by decide)) (ab (ff (pv 0) T.k_Book T.m_Book_reckon_positions G_Book_reckon_positions (hr.mono (by decide))) af))) (ae (bg (ay dH (aI ax (by rfl) T.n_len boot_len (ab (pv 2) af)) al (aB _)) (ai (ao (aw (ab (aS T.g_NOT_NOW) af)))) aE) (ae (bg (ay fP (aL cD (aI ax (by rfl) T.n_len boot_len (ab (am (pv 0) rfl) af)) (aI ax (by rfl) T.n_len boot_len (ab (pv 2) af))) (aS T.g_MOST_PAYMENTS) (aB _)) (ai (ao (aw (ab (aS T.g_TOO_MANY) af)))) aE) (ae (ci PassesOwn.never rfl (bx (pv 2)) (aQ (i:=3) mt.nd rfl (Or.inl rfl)) (ai (aV (cj (pv 0) T.k_Book T.m_Book_take_payment G_Book_take_payment (hr.mono (by decide)) (ab (pv 3) af))))) (ai (ao (aL d9 (aw (ab (aI ax (by rfl) T.n_len boot_len (ab (pv 2) af)) af)) (bG T.f_as_row G_as_row (hr.mono (by decide)) (ab (bG T.f_in_threes G_in_threes (hr.mono (by decide)) (ab (pv 2) af)) af))))))))),?_⟩;walk_at"prep";walk_at"rx";refine⟨B,st,rfl,hB,wf,λH1 p s1 hp hp1=>?_⟩;walk_at"rx";refine⟨p,_,_,rfl,hp1,hn.2,pL wf,tab.mono s1,λH2 q as sb t2 hq0 hq1 hal hpr=>?_⟩;rw[<- gD wf]at hpr;have hpr:Paired (fe (ad .Payment) H2) as (Vbpoal.plan st):=hpr;have las:as.length=(Vbpoal.plan st).length:=PySem.Paired.length hpr;have sbH:bW tp H H2:=λa o e nt=>sb a o (s1 _ _ e) nt;have q0:H q=none:=s1.none_of hq0;obtain⟨pz,hpz⟩:=dY.there t2;have B2:=hB.sameB sbH tab;obtain⟨dx2,hb2⟩:=B2.bk;have hpl2:=B2.pl;have lp:=hB.len_ps;have eP:PAYMENTS=400:=rfl;have one:∀{x:Int},zc ad tp H B st [x] Q->∀p,H2 p=none->Q (.ref p) (upd H2 p (.lst [.int x])):=λ{x} k p hp=>
  k.sameB hB tab (λa o e nt=>sN hp _ _ (sbH a o e nt)) (dY.mono t2 (sN hp)) (Pc.bW.none_of sbH hpz hp) ac
 walk_at"rx";rw[length_map,las];refine aY (λh1=>?_) (λh1=>?_)
 .rw[if_pos (by rw[List.isEmpty_iff];exact List.length_eq_zero_iff.mp (by omega))]at k;walk_at"rx";exact aD (lb rfl) (one k)
 .rw[if_neg (by rw[List.isEmpty_iff];intro z;rw[z]at h1;exact h1 rfl)]at k;walk_at"rx";rw[length_map,length_map,lp,las];refine aY (λh2=>?_) (λh2=>?_)
  .rw[if_pos (by omega)]at k;walk_at"rx";exact aD (lb rfl) (one k)
  .rw[if_neg (by omega)]at k;have npq:q≠B.pa:=λe=>by rw[e,hB.pl]at q0;cases q0
   walk_at"rx";refine⟨q,rfl,⟨_,aR.of hq1⟩,?_⟩;refine bX (K:=K) (a:=q) (xs:=as.map V.ref) (λi σ H'=>∃z3:Option V,σ=[some (.ref B.b),some (.ref aa),some (.ref q),z3]/\aA ad H' { B with ps:=B.ps++as.take i } { st with payments:=st.payments++(Vbpoal.plan st).take i }/\(∀a o,H2 a=some o->a≠B.pa->H' a=some o)/\∀a,H' a=none->H2 a=none)
    ⟨none,rfl,by rw[take_zero,take_zero,append_nil,append_nil];exact B2,λa o e _=>e,λa e=>e⟩ (λi σ H' _ ⟨_,_,_,e,_⟩=>aR.of (e _ _ hq1 npq)) ?_ ?_
   .rintro i y σ H3 hi ⟨z3,rfl,hB3,kp,fr⟩;obtain⟨c,hc,rfl⟩:=bb hi;obtain⟨x,hx,⟨dx',hcx⟩⟩:=dj hpr hc;have il:i<(Vbpoal.plan st).length:=(List.getElem?_eq_some_iff.mp hx).1;obtain⟨dx3,hb3⟩:=hB3.bk;have hb3:H3 B.b=some (.ins (ad .Book) dx3 (zp st.day st.houses.length B.ra B.ma B.sa B.pa)):=hb3;have pc:fe (ad .Payment) H3 c x:=⟨dx',kp _ _ hcx (aP hcx hpl2 (by intro z;cases z))⟩
    have n3:=hB3.add_pay pc;walk_at"rx";refine⟨{ B with ps:=B.ps++as.take i },{ st with payments:=st.payments++(Vbpoal.plan st).take i },c,rfl,hB3,by show(st.payments++(Vbpoal.plan st).take i).length<=1000;rw[length_append,length_take];omega,?_⟩;refine⟨_,rfl,?_,λa o e na=>by show upd _ _ _ _=_;rw[ah na];exact kp a o e na,λa e=>fr _ (gC e)⟩;rw[aT hc,aT hx,<- List.append_assoc,<- List.append_assoc];exact n3
   .rintro σ H3 ⟨z3,rfl,hB3,kp,fr⟩;rw[length_map,take_length,las,take_length]at hB3;have hq3:=kp _ _ hq1 npq;have t3:fx tp H3:=by
     have nl:∀{a:Addr} {o:HO},H2 a=some o->(∀xs,o≠.lst xs)->a≠B.pa:=λ{a o} e n z=>by rw[z,hpl2]at e;exact n _ (Option.some.inj e).symm
     rcases t2 with e|⟨c',e,o,vs,tk,e1,e2⟩
     .exact .inl (kp _ _ e (nl e λxs z=>by cases z))
     .exact .inr ⟨c',kp _ _ e (nl e λxs z=>by cases z),o,vs,tk,kp _ _ e1 (nl e1 λxs z=>by cases z),e2⟩
    have pX:Paired (nH (ad .Payment) H3) as ((Vbpoal.plan st).map gH):=wA gH (λa b h=>h) (aK hpr λc _ v ⟨d,z⟩=>⟨d,kp _ _ z (aP z hpl2 (by intro z;cases z))⟩);have lpl:((Vbpoal.plan st).map gH).length<=500:=by rw[length_map];omega
    walk_at"rx";rw[length_map,las];refine aD (lb rfl) λu hu=>?_;have s3:au H3 (upd H3 u (.lst [.int (Vbpoal.plan st).length])):=sN hu;have hu1:LI (upd H3 u (.lst [.int (Vbpoal.plan st).length])) u [((Vbpoal.plan st).length:Int)]:=ac;generalize upd H3 u (.lst [.int (Vbpoal.plan st).length])=H4 at *;walk_at"rx";refine⟨q,as,(Vbpoal.plan st).map gH,rfl,s3 _ _ hq3,lpl,aK pX (λ_ _ _ ⟨d,z⟩=>⟨d,s3 _ _ z⟩),λH5 p5 s5 hp5 hl5=>?_⟩;rw[lQ]at hl5;have l3:((Vbpoal.plan st).flatMap paymentRow).length=3*(Vbpoal.plan st).length:=by rw[<- lQ,nZ,length_map]
    walk_at"rx";refine⟨p5,_,rfl,hl5,by omega,λH6 p6 s6 hp6 hl6=>?_⟩;refine fy (xs:=[((Vbpoal.plan st).length:Int)]) (LI.same s6 (LI.same s5 hu1)) hl6 (by show 1+(((Vbpoal.plan st).flatMap paymentRow).length+1)<=5000;omega) λH7 p7 s7 hp7 hl7=>?_;have s36:=(s3.trans s5).trans s6;have s37:=s36.trans s7;have e:flat (yes { st with payments:=st.payments++Vbpoal.plan st } (Vbpoal.plan st).length [(Vbpoal.plan st).flatMap paymentRow]).2=[((Vbpoal.plan st).length:Int)]++((((Vbpoal.plan st).flatMap paymentRow).length:Int)::(Vbpoal.plan st).flatMap paymentRow):=by show((Vbpoal.plan st).length:Int)::(((((Vbpoal.plan st).flatMap paymentRow).length:Int)::(Vbpoal.plan st).flatMap paymentRow)++[])=_;rw[append_nil];rfl
    rw[e]at k;refine k H7 _ p7 (hB3.same s37) ⟨λa o ea nf nt=>s37 _ _ (kp _ _ (sbH _ _ ea nt) λz=>nf (by rw[z];exact F0)),λa f=>.inl f⟩ rfl (dY.mono t3 s37) (Pc.bW.none_of sbH hpz (fr _ (s36.none_of hp7))) hl7
def pM (g:fO):List Int:=g.flatMap λx=>[(x.1:Int),x.2]
theorem jS:∀g:fO,(pM g).length=2*g.length
 |[]=>rfl
 |x::g=>by show((x.1:Int)::x.2::pM g).length=_;rw[length_cons,length_cons,length_cons,jS g];omega
def nk (gs:List fO):List Int:=gs.flatMap λg=>((pM g).length:Int)::pM g
theorem rq {m:Nat}:∀{gs:List fO},(∀g∈gs,g.length<=m)->(nk gs).length<=gs.length*(2*m+1)
 |[],_=>zero_le _
 |g::gs,h=>by have ih:=rq (m:=m) (gs:=gs) λx hx=>h x (mem_cons_of_mem _ hx);have h1:=h g mem_cons_self;show((((pM g).length:Int)::pM g)++nk gs).length<=_;rw[length_append,length_cons,length_cons,jS,Nat.add_mul,Nat.one_mul];omega
theorem vi {s:Vbpoal.State}:VbpoalNeutral.step s [[18]]=(s,((Vbpoal.groups s).length:Int)::nk (Vbpoal.groups s)):=by show(s,((Vbpoal.groups s).length:Int)::((Vbpoal.groups s).map λl=>l.flatMap λx=>[(x.1:Int),x.2]).flatMap (λr=>(r.length:Int)::r))=_;rw[List.flatMap_map];rfl
theorem pN (T:Tx K mg ad fdt)(TF:uX mg base fdt tc tp):aG P w K mg base bO 8 (ad .tell_groups) (fdt .tell_groups) ["book","arguments"] (n8 ad tp 18):=by
 have G_part_into_groups:=xL (P:=P) (w:=w) T TF;have G_Book_reckon_positions:=iC (P:=P) (w:=w) (base:=base) T;have G_as_row:=cM (P:=P) (w:=w) (base:=base) T;refine T.f_tell_groups.fn.ok cB (λvs H Q E h=>h.two) (λcdv A outer s H vs Q E hr h=>?_);obtain⟨B,st,aa,nums,rows,rfl,hB,wf,tab,ha,hask,k⟩:=h;obtain⟨rfl,rfl⟩:=sR (.inr (.inr (.inl rfl))) hask;rw[vi]at k;obtain⟨dx,hb⟩:=hB.bk;have hn:=wf.n;have hu:=kq hr;walk_at"bk";refine⟨_,(ae (aq (i:=2) cB.nd rfl (Or.inl rfl) (ff (pv 0) T.k_Book T.m_Book_reckon_positions G_Book_reckon_positions (hr.mono (by decide)))) (ae (aq (i:=3) cB.nd rfl (Or.inl rfl) (bG T.f_part_into_groups G_part_into_groups (hr.mono (by decide)) (ab (pv 2) af))) (ae (aq (i:=4) cB.nd rfl (Or.inl rfl) (aw (ab (aI ax (by rfl) T.n_len boot_len (ab (pv 3) af)) af))) (ae (ci PassesOwn.never rfl (bx (pv 3)) (aQ (i:=5) cB.nd rfl (Or.inl rfl)) (ae (aq (i:=6) cB.nd rfl (Or.inl rfl) (aw af)) (ae (ci PassesOwn.never rfl (bx (pv 5)) (aQ (i:=7) cB.nd rfl (Or.inl rfl)) (ai (aV (dz PySem.F.plainAttrs_list PySem.F.slot_list_extend PySem.F.type_list_extend dR (pv 6) (ab (aw (ab (pv 7) (ab (dS hu (pv 2) (pv 7) (λ_ _=>rfl)) af))) af))))) (ai (aV (dz PySem.F.plainAttrs_list PySem.F.slot_list_extend PySem.F.type_list_extend dR (pv 4) (ab (bG T.f_as_row G_as_row (hr.mono (by decide)) (ab (pv 6) af)) af))))))) (ai (ao (pv 4))))))),?_⟩;walk_at"prep";walk_at"rx";refine⟨B,st,rfl,hB,wf,λH1 p s1 hp hp1=>?_⟩;walk_at"rx";refine⟨p,_,_,rfl,hp1,hn.2,pL wf,tab.mono s1,λH2 q as sb t2 hq0 hq1 hal hgn hpr=>?_⟩;rw[<- gD wf]at hpr;have gin:∀g∈Vbpoal.groups st,g.Sublist (lU st.houses.length (mv (cf st))):=λg hg=>(j8 _ _ (by rw[<- gD wf];exact hg)).1;generalize hf:mv (cf st)=f at *;generalize hG:Vbpoal.groups st=G at *;have lG:as.length=G.length:=by have:=PySem.Paired.length hpr;rw[length_map]at this;exact this
 have sbH:bW tp H H2:=λa o e nt=>sb a o (s1 _ _ e) nt;obtain⟨pz,hpz⟩:=dY.there t2;obtain⟨pz1,hpz1⟩:=dY.there (tab.mono s1);have p2:H2 p=some (.dK (bC st.houses.length f)):=sb _ _ hp1 (aP hp1 hpz1 (by intro z;cases z));have gl:∀g∈G,g.length<=10:=λg hg=>by have:=(gin g hg).length_le;have:=xJ st.houses.length f;omega
 walk_at"rx";rw[length_map,lG];refine aD (lb rfl) λan han=>?_;have han0:H an=none:=Pc.bW.none_of sbH hpz han;have s3:au H2 (upd H2 an (.lst [.int G.length])):=sN han;have ha3:LI (upd H2 an (.lst [.int G.length])) an [(G.length:Int)]:=ac;have nqa:q≠an:=aj hq1 han;generalize upd H2 an (.lst [.int G.length])=H3 at *;walk_at"rx";refine⟨q,rfl,⟨_,aR.of (s3 _ _ hq1)⟩,?_⟩;refine bX (K:=K) (a:=q) (xs:=as.map V.ref) (λi σ H'=>∃z5 z6 z7:Option V,σ=[some (.ref B.b),some (.ref aa),some (.ref p),some (.ref q),some (.ref an),z5,z6,z7]/\au H2 H'/\LI H' an ((G.length:Int)::nk (G.take i)))
  ⟨none,none,none,rfl,s3,ha3⟩ (λi σ H' _ ⟨_,_,_,_,e,_⟩=>aR.of (e _ _ hq1)) ?_ ?_
 .rintro i y σ H4 hi ⟨z5,z6,z7,rfl,s4,ha4⟩;obtain⟨c,hc,rfl⟩:=bb hi;obtain⟨x,hx,hcx⟩:=dj hpr hc;rw[getElem?_map]at hx;obtain⟨g,hg1,hg2⟩:=map_eq_some_iff.mp hx;subst hg2;have gm:=mem_of_getElem? hg1;obtain⟨o1,o2,o3,o4⟩:=wk (gin g gm);have gl1:=gl g gm;have il:i<as.length:=(List.getElem?_eq_some_iff.mp hc).1;have hcx4:=LI.same s4 hcx;have ha4':H4 an=some (.lst (((G.length:Int)::nk (G.take i)).map V.int)):=ha4;walk_at"rx";refine aD (lb rfl) λro hro=>?_;have s5:au H4 (upd H4 ro (.lst [])):=sN hro;have hr5:LI (upd H4 ro (.lst [])) ro []:=ac;generalize upd H4 ro (.lst [])=H5 at *;walk_at"rx";refine⟨c,rfl,⟨_,aR.of (s5 _ _ hcx4)⟩,?_⟩;refine bX (K:=K) (a:=c) (xs:=(ki g).map V.int) (λj σ H'=>∃z7:Option V,σ=[some (.ref B.b),some (.ref aa),some (.ref p),some (.ref q),some (.ref an),some (.ref c),some (.ref ro),z7]/\au H4 H'/\LI H' ro (pM (g.take j)))
   ⟨z7,rfl,s5,hr5⟩ (λj σ H' _ ⟨_,_,e,_⟩=>aR.of (e _ _ hcx4)) ?_ ?_
  .rintro j y σ H6 hj ⟨z7,rfl,s6,hr6⟩;obtain⟨r,hr1,rfl⟩:=bb hj;unfold ki at hr1;rw[getElem?_map]at hr1;obtain⟨x,hx1,hx2⟩:=map_eq_some_iff.mp hr1;subst hx2;have jl:j<g.length:=(List.getElem?_eq_some_iff.mp hx1).1;have ex:x.2=f x.1:=by have m:=mem_of_getElem? hx1;rw[o4]at m;obtain⟨w,_,e⟩:=mem_map.mp m;rw[<- e]
   have xin:=o2 x.1 (mem_map.mpr ⟨x,mem_of_getElem? hx1,rfl⟩);have g1:dq H6 p (.int (x.1:Int)) (some (.int (f x.1))):=by have q:dq H6 p (V.int (x.1:Int)) (cS (bC st.houses.length f) (.inl (x.1:Int))):=dq.k (k:=Sum.inl (x.1:Int)) ((s4.trans s6) _ _ p2);rw[eU xin]at q;exact q
   have hr6':H6 ro=some (.lst ((pM (g.take j)).map V.int)):=hr6;walk_at"rx";refine⟨p,_,rfl,g1,?_⟩;walk_at"rx";refine aD (lb rfl) λv hv=>?_;have hr7:upd H6 v (.lst [.int (x.1:Int),.int (f x.1)]) ro=some (.lst ((pM (g.take j)).map V.int)):=sN hv _ _ hr6;walk_at"rx";refine lh hr7 ac (by rw[length_map,jS,length_take,sizeLine_eq];show _+2<=_;omega) ?_;refine⟨_,rfl,(s6.trans (sN hv)).upd_new hro,?_⟩;show upd _ _ _ _=_;rw[ac,aT hx1];unfold pM;rw[List.flatMap_append,map_append];simp[ex]
  .rintro σ H6 ⟨z7,rfl,s6,hr6⟩;have ln:((ki g).map V.int).length=g.length:=by rw[length_map];unfold ki;rw[length_map]
   rw[ln,take_length]at hr6;walk_at"rx";have ha6:=LI.same s6 ha4;have ha6':H6 an=some (.lst (((G.length:Int)::nk (G.take i)).map V.int)):=ha6;walk_at"rx";refine⟨ro,_,rfl,hr6,by rw[jS];omega,λH7 p7 s7 hp7 hl7=>?_⟩;walk_at"rx";refine lh (s7 _ _ ha6) hl7 ?_ ?_
   .rw[length_map,length_map,sizeLine_eq];have q1:=rq (m:=10) (gs:=G.take i) λg' hg'=>gl g' (List.mem_of_mem_take hg');rw[length_take]at q1;show((nk (G.take i)).length+1)+((pM g).length+1)<=_;rw[jS];have:min i G.length*(2*10+1)<=10*21:=Nat.mul_le_mul (by omega) (by decide);omega
   .refine⟨_,_,_,rfl,(s4.trans (s6.trans s7)).upd_new han,?_⟩;show upd _ _ _ _=_;rw[ac,aT hg1];unfold nk;rw[List.flatMap_append];simp
 .rintro σ H4 ⟨z5,z6,z7,rfl,s4,ha4⟩;rw[length_map,lG,take_length]at ha4;walk_at"rx";have sbE:bW tp H H4:=λa o e nt=>s4 _ _ (sbH a o e nt);exact k.sameB hB tab sbE (dY.mono t2 s4) han0 ha4
theorem EY {b n:Int}(h0:0<=b)(h1:b<=3000)(e:Builtin.Range.rangeSize 0 b 3=n)(n0:0<=n)(n1:n<=1000):Builtin.Range.small 0 b 3=true:=by
 unfold Builtin.Range.small;rw[e];have l1:(-(2^63):Int) = -9223372036854775808:=by decide
 have l2:((2:Int)^63)=9223372036854775808:=by decide
 have f:∀z:Int,-10000<=z->z<=10000->Builtin.Range.rangeFitsLong z=true:=λz a b=>by unfold Builtin.Range.rangeFitsLong;rw[and_eq_true,decide_eq_true_eq,decide_eq_true_eq,l1,l2];omega
 rw[f 0 (by decide) (by decide),f b (by omega) (by omega),f 3 (by decide) (by decide),f n (by omega) (by omega)];simp only[Bool.true_and,Bool.and_true,or_eq_true,decide_eq_true_eq,beq_iff_eq,and_eq_true];refine .inr ?_;rw[if_pos (by decide)];exact f _ (by omega) (by omega)
theorem GK (m:Nat)(h:m<=1000):Gw 0 ((3*m:Nat):Int) 3 m:=by
 have e:Builtin.Range.rangeSize 0 ((3*m:Nat):Int) 3=(m:Int):=by unfold Builtin.Range.rangeSize;rw[if_pos (by decide)];split<;>omega
 exact⟨by decide,by decide,EY (by omega) (by omega) e (by omega) (by omega),e⟩
def DY:List Int->List (Int×Int×Int)
 |a::b::c::l=>(a,b,c)::DY l
 |_=>[]
theorem pO:∀(m:Nat) (l:List Int),l.length=3*m->threes l=some (DY l)/\(DY l).length=m
 |0,l,h=>by have:l=[]:=List.length_eq_zero_iff.mp (by omega);subst this;exact⟨rfl,rfl⟩
 |m+1,l,h=>by
  match l,h with
  |a::b::c::l,h=>
   have h:l.length+1+1+1=3*(m+1):=h;obtain⟨e1,e2⟩:=pO m l (by omega);refine⟨?_,?_⟩
   .show(threes l).map (λr=>(a,b,c)::r)=_;rw[e1];rfl
   .show(DY l).length+1=_;rw[e2]
  |[],h=>simp at h
  |[a],h=>simp at h;omega
  |[a,b],h=>simp at h;omega
theorem np:∀(l:List Int),l.length%3≠0->threes l=none
 |[],h=>absurd rfl h
 |[a],_=>rfl
 |[a,b],_=>rfl
 |a::b::c::l,h=>by have h:(l.length+1+1+1)%3≠0:=h;show(threes l).map (λr=>(a,b,c)::r)=none;rw[np l (by omega)];rfl
theorem BE:∀(m:Nat) (l:List Int),l.length=3*m->∀i,i<m->∃x,(DY l)[i]?=some x/\l[3*i]?=some x.1/\l[3*i+1]?=some x.2.1/\l[3*i+2]?=some x.2.2
 |0,_,_,i,h=>by omega
 |m+1,l,h,i,hi=>by
  match l,h with
  |a::b::c::l,h=>
   have h:l.length+1+1+1=3*(m+1):=h
   match i with
   |0=>exact⟨(a,b,c),rfl,rfl,rfl,rfl⟩
   |i+1=>
    obtain⟨x,e1,e2,e3,e4⟩:=BE m l (by omega) i (by omega);have e:3*(i+1)=3*i+1+1+1:=by omega
    exact⟨x,e1,by rw[e];exact e2,by rw[e];exact e3,by rw[e];exact e4⟩
  |[],h=>simp at h
  |[a],h=>simp at h;omega
  |[a,b],h=>simp at h;omega
def fJ (x:Int×Int×Int):Vbpoal.Payment:=⟨x.1.toNat,x.2.1.toNat,x.2.2.toNat⟩
theorem BF {s:Vbpoal.State}{x:Int×Int×Int}(h:va s x=true):(1<=x.1/\x.1<=s.houses.length)/\(1<=x.2.1/\x.2.1<=s.houses.length)/\1<=x.2.2/\x=gH (fJ x):=by unfold va at h;simp only[and_eq_true]at h;have h1:=az.mp h.1;have h2:=az.mp h.2.1;have h3:=az.mp h.2.2.2;refine⟨h1,h2,h3.1,?_⟩;unfold gH fJ;obtain⟨a,b,c⟩:=x;show(a,b,c)=(((a.toNat:Nat):Int),((b.toNat:Nat):Int),((c.toNat:Nat):Int));rw[toNat_of_nonneg (by have:1<=a:=h1.1;omega),toNat_of_nonneg (by have:1<=b:=h2.1;omega),toNat_of_nonneg (by have:1<=c:=h3.1;omega)]
def pP (s:Vbpoal.State)(r:List (Int×Int×Int)):Vbpoal.State×Ans:=if (r.all λx=>va s x)=false then Vbpoal.no s 2 else
  yes s (if ((Vbpoal.nums s.houses.length).all λa=>behind s (r.map fJ) a==0)=true then 1 else 0) [(Vbpoal.nums s.houses.length).map (behind s (r.map fJ)),Vbpoal.ints [Vbpoal.nsum ((r.map fJ).map λp=>p.amount)]]
theorem wB {s:Vbpoal.State}{l:List Int}:VbpoalNeutral.step s [[15],l]=((match threes l with|none=>Vbpoal.no s 2|some r=>pP s r).1,flat (match threes l with|none=>Vbpoal.no s 2|some r=>pP s r).2):=rfl
theorem wC {s:Vbpoal.State}(wf:Wf s)(ps:List Vbpoal.Payment):behind s ps=mv (cf s++ps.map fC):=funext λa=>x5 wf.si wf.pi ps a
theorem BG (T:Tx K mg ad fdt):aG P w K mg base bO 8 (ad .judge) (fdt .judge) ["book","arguments"] (n8 ad tp 15):=by
 have G_Payment___init__:=fN (P:=P) (w:=w) (base:=base) T;have G_Book_reckon_positions:=iC (P:=P) (w:=w) (base:=base) T;have G_can_be_judged:=ES (P:=P) (w:=w) (base:=base) T;have G_shift_positions:=pj (P:=P) (w:=w) (base:=base) T;have G_as_row:=cM (P:=P) (w:=w) (base:=base) T;have G_sum_of:=rm (P:=P) (w:=w) (base:=base) T;refine T.f_judge.fn.ok eQ (λvs H Q E h=>h.two) (λcdv A outer s H vs Q E hr h=>?_);obtain⟨B,st,aa,nums,rows,rfl,hB,wf,tab,ha,hask,k⟩:=h;obtain⟨l,rfl,rfl⟩:=wt (.inr (.inl rfl)) hask;have k:=k.plain hB tab;rw[wB]at k;have hl400:l.length<=400:=by have h:((l.all λ(z:Int)=>VbpoalNeutral.whole64 z)&&decide (l.length<=400))=true:=hask;rw[and_eq_true,decide_eq_true_eq]at h;exact h.2
 obtain⟨ra,hra,hrl⟩:=ha.row;obtain⟨dx,hb⟩:=hB.bk;have hn:=wf.n;have hu:=kq hr;have hrl':H ra=some (.lst (l.map V.int)):=hrl;walk_at"bk";walk_at"py";refine⟨_,(ae (aq (i:=2) eQ.nd rfl (Or.inr rfl) (bf aJ (pv 1) al (λ_ _=>rfl))) (ae (bg (ay jt (aL Ef (aI ax (by rfl) T.n_len boot_len (ab (pv 2) af)) al) al (aB _)) (ai (ao (aw (ab (aS T.g_WRONG_ROW) af)))) aE) (ae (lf (i:=4) (own:=[("place",3)]) rfl eQ.nd rfl rfl (rT rfl rfl rfl rfl) (yl rfl T.n_range (ab al (ab (aI ax (by rfl) T.n_len boot_len (ab (pv 2) af)) (ab al af)))) (dI rfl) (λs H C cl fp=>(aQ (i:=3) eQ.nd rfl (Or.inl rfl))) (λs H C cl fp=>eE) (λs H C cl fp=>(mS T.c_Payment T.b_Payment G_Payment___init__ (hr.mono (by decide)) (ab (bf (lj K) (pv 2) (pv 3) (λ_ _=>rfl)) (ab (bf (lj K) (pv 2) (aL cD (pv 3) al) (λ_ _=>rfl)) (ab (bf (lj K) (pv 2) (aL cD (pv 3) al) (λ_ _=>rfl)) af)))))) (ae (aq (i:=5) eQ.nd rfl (Or.inr rfl) (ff (pv 0) T.k_Book T.m_Book_reckon_positions G_Book_reckon_positions (hr.mono (by decide)))) (ae (ci PassesOwn.never rfl (bx (pv 4)) (aQ (i:=6) eQ.nd rfl (Or.inl rfl)) (ae (bg (dF (d4 (bG T.f_can_be_judged G_can_be_judged (hr.mono (by decide)) (ab (pv 0) (ab (pv 6) af))))) (ai (ao (aw (ab (aS T.g_WRONG_ROW) af)))) aE) (ai (aV (bG T.f_shift_positions G_shift_positions (hr.mono (by decide)) (ab (pv 5) (ab (am (pv 6) rfl) (ab (am (pv 6) rfl) (ab (am (pv 6) rfl) af))))))))) (ae (xa (lf (i:=8) (own:=[("house",7)]) rfl eQ.nd rfl rfl (rT rfl rfl rfl rfl) (xb (pv 5)) (dI rfl) (λs H C cl fp=>(aQ (i:=7) eQ.nd rfl (Or.inl rfl))) (λs H C cl fp=>jW (ay jt (dS hu (pv 5) (pv 7) (λ_ _=>rfl)) al (aB _))) (λs H C cl fp=>(pv 7)))) (ae (aq (i:=9) eQ.nd rfl (Or.inl rfl) (oF (ay dH (aI ax (by rfl) T.n_len boot_len (ab (pv 8) af)) al (aB _)) al al)) (ai (ao (aL d9 (aL d9 (aw (ab (pv 9) af)) (bG T.f_as_row G_as_row (hr.mono (by decide)) (ab (A4 rfl rfl T.n_list (pv 5)) af))) (bG T.f_as_row G_as_row (hr.mono (by decide)) (ab (aw (ab (bG T.f_sum_of G_sum_of (hr.mono (by decide)) (ab (pv 4) af)) af)) af)))))))))))),?_⟩;walk_at"prep";walk_at"rx";refine bw (aR.of hra) (aO (j:=0) rfl) ?_;walk_at"rx";rw[length_map];refine gF (show(0:Int)<3 by decide) ?_;walk_at"rx";refine dv (λh1=>?_) (λh1=>?_)
 .rw[np l (by omega)]at k;walk_at"rx";exact aD (lb rfl) λp hp=>k.one hB H p (au.refl H) hp
 .obtain⟨m,hm⟩:∃m,l.length=3*m:=⟨l.length / 3,by omega⟩
  obtain⟨et,lt⟩:=pO m l hm;rw[et]at k;have k:eX ad H B (pP st (DY l)).1 (flat (pP st (DY l)).2) Q:=k;have at_:=BE m l hm;generalize DY l=r at *;unfold pP at k;walk_at"rx";rw[length_map,hm];refine⟨0,((3*m:Nat):Int),3,m,rfl,GK m (by omega),λD hD=>?_⟩;refine fM (D:=D) (J:=Gc 0 3 m) (n:=m) (λi H'=>au H H'/\∃as:List Addr,H' D=some (.lst (as.map V.ref))/\Paired (nH (ad .Payment) H') as (r.take i))
   ⟨(au.refl H).upd_new hD,[],ac,.nil⟩ (λ_ _=>Nat.le_refl m) (λi _ h _=>h) ?_ ?_
  .rintro i H1 x H2 hi ⟨s1,as,hD1,hpr⟩ ⟨e,ex⟩;subst e ex;obtain⟨x,hx,x1,x2,x3⟩:=at_ i hi;have las:as.length=(r.take i).length:=PySem.Paired.length hpr;rw[length_take]at las;have hl2:aR K H2 ra (l.map V.int):=aR.of (s1 _ _ hrl);walk_at"rx";refine⟨rfl,?_⟩;walk_at"rx";refine bw hl2 (v:=.int x.1) ?_ ?_
   .rw[show(0:Int)+((i:Nat):Int)*3=((3*i:Nat):Int)by omega];exact fg x1
   walk_at"rx";refine bw hl2 (v:=.int x.2.1) ?_ ?_
   .rw[show(0:Int)+((i:Nat):Int)*3+1=((3*i+1:Nat):Int)by omega];exact fg x2
   walk_at"rx";refine bw hl2 (v:=.int x.2.2) ?_ ?_
   .rw[show(0:Int)+((i:Nat):Int)*3+2=((3*i+2:Nat):Int)by omega];exact fg x3
   walk_at"rx";intro y dy hy0 hdy0 nyd;refine⟨y,dy,x.1,x.2.1,x.2.2,rfl,ac,?_⟩;rw[bH];refine⟨rfl,?_⟩;have s3:au H2 (upd (upd H2 dy (.own y)) y (.ins (ad .Payment) dy (kT x.1 x.2.1 x.2.2))):=((au.refl H2).upd_new hdy0).upd_new hy0;have hy3:upd (upd H2 dy (.own y)) y (.ins (ad .Payment) dy (kT x.1 x.2.1 x.2.2)) y=some (.ins (ad .Payment) dy (kT x.1 x.2.1 x.2.2)):=ac;generalize upd (upd H2 dy (.own y)) y (.ins (ad .Payment) dy (kT x.1 x.2.1 x.2.2))=H4 at *;have hD4:=s3 _ _ hD1;refine⟨_,hD4,by rw[length_map,sizeLine_eq];omega,(s1.trans s3).upd_new hD,as++[y],by rw[ac,map_append];rfl,?_⟩;rw[aT hx];have kpP:∀{xs:List V} {c:Addr} {v:Int×Int×Int},nH (ad .Payment) H4 c v->nH (ad .Payment) (upd H4 D (.lst xs)) c v:=λ{xs c v} ⟨d,e⟩=>⟨d,by rw[ah (aP e hD4 (by intro z;cases z))];exact e⟩
   exact fh (aK hpr λc _ v ⟨d,q⟩=>kpP ⟨d,s3 _ _ q⟩) (kpP ⟨dy,hy3⟩)
  .rintro H1 ⟨s1,as,hD1,hpr⟩;rw[<- lt,take_length]at hpr;have las:as.length=r.length:=PySem.Paired.length hpr;have B1:=hB.same s1;have hb1:=s1 _ _ hb;walk_at"rx";refine⟨B,st,rfl,B1,wf,λH2 p s2 hp0 hp2=>?_⟩;have s12:=s1.trans s2;have hp0':=s1.none_of hp0;have hD2:=s2 _ _ hD1;have npD:D≠p:=λe=>by rw[e]at hD1;rw[hD1]at hp0;cases hp0
   walk_at"rx";refine⟨D,rfl,⟨_,aR.of hD2⟩,?_⟩;generalize hN:st.houses.length=n at *;refine bX (K:=K) (a:=D) (xs:=as.map V.ref) (λi σ H'=>∃z6:Option V,σ=[some (.ref B.b),some (.ref aa),some (.ref ra),none,some (.ref D),some (.ref p),z6,none,none,none]/\(∀b u,H2 b=some u->b≠p->H' b=some u)/\H' p=some (.dK (bC n (mv (cf st++((r.take i).map fJ).map fC))))/\∀x∈r.take i,va st x=true)
    ⟨none,rfl,λb u e _=>e,by rw[take_zero,map_nil,map_nil,append_nil];exact hp2,λx hx=>by rw[take_zero]at hx;cases hx⟩ (λi σ H' _ ⟨_,_,kp,_⟩=>aR.of (kp _ _ hD2 npD)) ?_ ?_
   .rintro i y σ H3 hi ⟨z6,rfl,kp,hp3,hcan⟩;obtain⟨c,hc,rfl⟩:=bb hi;obtain⟨x,hx,⟨dx',hcx⟩⟩:=dj hpr hc;have s3:au H H3:=λb u e=>kp _ _ (s12 b u e) (aj e hp0');have B3:=hB.same s3;have hcx3:=kp _ _ (s2 _ _ hcx) (aP (s2 _ _ hcx) hp2 (by intro z;cases z));walk_at"rx";refine⟨B,st,c,x,rfl,B3,⟨dx',hcx3⟩,?_⟩;cases ec:va st x with
    |false=>
     rw[if_pos (by
      cases q:r.all λx=>va st x with
      |false=>rfl
      |true=>rw[all_eq_true.mp q x (mem_of_getElem? hx)]at ec;cases ec)]at k
     walk_at"rx";exact aD (lb rfl) λq hq=>k.one hB H3 q s3 hq
    |true=>
     obtain⟨c1,c2,c3,c4⟩:=BF ec;rw[hN]at c1 c2;walk_at"rx";refine⟨p,n,x.1.toNat,x.2.1.toNat,_,x.2.2,by rw[toNat_of_nonneg (by omega),toNat_of_nonneg (by omega)],hp3,by omega,by omega,by omega,?_⟩;refine⟨_,rfl,λb u e nb=>by rw[ah nb];exact kp b u e nb,?_,λz hz=>?_⟩
     .rw[ac,aT hx,map_append,map_append,<- List.append_assoc];refine congrArg (λx=>some (HO.dK x)) (fv λh _ _=>?_);show _=mv ((cf st++((r.take i).map fJ).map fC)++[fC (fJ x)]) h;rw[rK];have e:x.2.2=((x.2.2.toNat:Nat):Int):=by omega
      show _+A6 x.1.toNat x.2.1.toNat x.2.2 h=_+BQ (x.1.toNat,x.2.1.toNat,x.2.2.toNat) h;rw[e];rfl
     .rw[aT hx]at hz;rcases mem_append.mp hz with hz|hz
      .exact hcan z hz
      .rw[mem_singleton.mp hz];exact ec
   .rintro σ H3 ⟨z6,rfl,kp,hp3,hcan⟩;rw[length_map,las,take_length]at hp3 hcan;have s3:au H H3:=λb u e=>kp _ _ (s12 b u e) (aj e hp0');have hD3:=kp _ _ hD2 npD;rw[if_neg (by rw[all_eq_true.mpr hcan];decide),wC wf]at k;have prX:Paired (nH (ad .Payment) H3) as r:=aK hpr λc _ v ⟨d,q⟩=>⟨d,kp _ _ (s2 _ _ q) (aP (s2 _ _ q) hp2 (by intro z;cases z))⟩
    have rX:r=(r.map fJ).map gH:=by rw[map_map];refine(map_id r).symm.trans (map_congr_left λx hx=>(BF (hcan x hx)).2.2.2)
    generalize hf:mv (cf st++(r.map fJ).map fC)=f at *;have kl:(bC n f).length=n:=jN n f;have at2:∀{i:Nat} {h:Nat},(Vbpoal.nums n)[i]?=some h->(bC n f)[i]?=some (.inl (h:Int),.int (f h)):=λ{i h} e=>by unfold bC;rw[getElem?_map,e];rfl
    refine qI ?_;refine Bf hp3 λod=>?_;refine qJ ?_;refine Ao ?_;refine xH ?_;walk_at"rx";refine⟨p,od,rfl,.inl ⟨_,ac,λO hO=>?_⟩⟩;have npO:p≠O:=λe=>by rw[<- e,ac]at hO;cases hO
    have hO3:H3 O=none:=by rw[ah (Ne.symm npO)]at hO;exact hO
    refine fM (J:=Fu p od (bC n f)) (n:=n) (λj H4=>(∀b u,H3 b=some u->b≠p->H4 b=some u)/\H4 p=some (.frz od (.dK (bC n f)))/\LI H4 O ((((Vbpoal.nums n).take j).filter λh=>f h != 0).map λ(h:Nat)=>(h:Int)))
     ⟨λb u q nb=>by rw[ah (aj q hO3),ah nb];exact q,by rw[ah npO];exact ac,ac⟩ (λH4 h=>⟨h.2.1,by rw[kl];exact Nat.le_refl _⟩) (λj H4 hj h=>⟨h.2.1,by rw[kl];exact hj⟩) ?_ ?_
    .rintro j H4 y H5 hj ⟨k4,hp4,hd4⟩ ⟨e,ky,vy,hy,rfl⟩;subst e;have hjn:j<(Vbpoal.nums n).length:=by rw[gB];exact hj
     have hh:(Vbpoal.nums n)[j]?=some (Vbpoal.nums n)[j]:=List.getElem?_eq_getElem hjn;generalize (Vbpoal.nums n)[j]=h at hh;rw[at2 hh]at hy;cases hy;have hm':=gA.mp (mem_of_getElem? hh);have g1:dq H5 p (.int (h:Int)) (some (.int (f h))):=by have q:dq H5 p (V.int (h:Int)) (cS (bC n f) (.inl (h:Int))):=dq.f (k:=Sum.inl (h:Int)) hp4;rw[eU hm']at q;exact q
     have tk:((Vbpoal.nums n).take (j+1)).filter (λh=>f h != 0)=(((Vbpoal.nums n).take j).filter λh=>f h != 0)++if f h=0 then[]else[h]:=by
      rw[aT hh,filter_append]
      congr 1
      by_cases z:f h=0
      .simp[z]
      .simp[z]
     walk_at"rx";refine⟨rfl,?_⟩;walk_at"rx";refine⟨p,_,rfl,g1,?_⟩;walk_at"rx";refine dv (λh1=>?_) (λh1=>?_)
     .walk_at"rx";refine⟨_,hd4,?_,λb u q nb=>by rw[ah (aj q hO3)];exact k4 b u q nb,by rw[ah npO];exact hp4,?_⟩
      .rw[length_map,length_map,sizeLine_eq];have:=length_filter_le (λh=>f h != 0) ((Vbpoal.nums n).take j);rw[length_take]at this;omega
      .show upd _ _ _ _=_;rw[ac,tk,if_neg h1,map_append,map_append];rfl
     .refine⟨k4,hp4,?_⟩;rw[tk,if_pos h1,append_nil];exact hd4
    .rintro H4 ⟨k4,hp4,hd4⟩;refine⟨hp4,?_⟩;rw[take_of_length_le (by rw[gB];exact Nat.le_refl _)]at hd4;have hd5:upd H4 p (.dK (bC n f)) O=some (.lst ((((Vbpoal.nums n).filter λh=>f h != 0).map λ(h:Nat)=>(h:Int)).map V.int)):=by rw[ah (Ne.symm npO)];exact hd4
     have hp5:upd H4 p (.dK (bC n f)) p=some (.dK (bC n f)):=ac;have s35:∀b u,H3 b=some u->upd H4 p (.dK (bC n f)) b=some u:=λb u q=>by
      by_cases z:b=p
      .subst z;rw[ac,<- hp3];exact q
      .rw[ah z];exact k4 b u q z
     generalize upd H4 p (.dK (bC n f))=H5 at *;have s35:au H3 H5:=s35;have s5:au H H5:=s3.trans s35;have prX5:∀{H':Hp},au H5 H'->Paired (nH (ad .Payment) H') as ((r.map fJ).map gH):=λ{H'} e=>by rw[<- rX];exact aK prX λc _ v ⟨d,q⟩=>⟨d,e _ _ (s35 _ _ q)⟩
     have lno:((Vbpoal.nums n).map f).length=n:=by rw[length_map,gB]
     have fin:∀z:Nat,eX ad H B st (flat (yes st z [(Vbpoal.nums n).map f,Vbpoal.ints [Vbpoal.nsum ((r.map fJ).map λp=>p.amount)]]).2) Q->
       x8 (vp zR (vp zR (yf (gq (fK 9) jk)) (tF xQ (gq (v9 (fK 5)) jk))) (tF xQ (gq (yf (gq (tF (DX (ad .Payment)) (gq (fK 4) jk)) jk)) jk))) { nx:=λ_ H'=>Q .non H',rt:=Q } [some (.ref B.b),some (.ref aa),some (.ref ra),none,some (.ref D),some (.ref p),z6,none,some (.ref O),some (.int (z:Int))] H5:=by
      intro z k;have ek:flat (yes st z [(Vbpoal.nums n).map f,Vbpoal.ints [Vbpoal.nsum ((r.map fJ).map λp=>p.amount)]]).2=([(z:Int)]++((((Vbpoal.nums n).map f).length:Int)::(Vbpoal.nums n).map f))++[1,((Vbpoal.nsum ((r.map fJ).map λp=>p.amount):Nat):Int)]:=by show(z:Int)::(((((Vbpoal.nums n).map f).length:Int)::(Vbpoal.nums n).map f)++([1,((Vbpoal.nsum ((r.map fJ).map λp=>p.amount):Nat):Int)]++[]))=_;rw[append_nil];rfl
      rw[ek]at k;walk_at"rx";refine aD (lb rfl) λu hu=>?_;have s6:au H5 (upd H5 u (.lst [.int (z:Int)])):=sN hu;have hu6:LI (upd H5 u (.lst [.int (z:Int)])) u [(z:Int)]:=ac;generalize upd H5 u (.lst [.int (z:Int)])=H6 at *;walk_at"rx";refine CN ?_;walk_at"rx";refine⟨p,_,rfl,s6 _ _ hp5,λq hq=>?_⟩;have ev:(bC n f).map (·.2)=((Vbpoal.nums n).map f).map V.int:=by unfold bC;rw[map_map,map_map];rfl
      rw[ev];have s7:au H5 (upd H6 q (.lst (((Vbpoal.nums n).map f).map V.int))):=s6.trans (sN hq);walk_at"rx";refine⟨q,(Vbpoal.nums n).map f,rfl,ac,by omega,λH7 p7 s8 hp7 hl7=>?_⟩;refine fy (xs:=[(z:Int)]) (LI.same s8 (LI.same (sN hq) hu6)) hl7 (by show 1+(((Vbpoal.nums n).map f).length+1)<=5000;omega) λH8 p8 s9 hp8 hl8=>?_;have s58:=(s7.trans s8).trans s9;walk_at"rx";refine⟨D,as,(r.map fJ).map gH,rfl,s58 _ _ (s35 _ _ hD3),by rw[length_map,length_map];omega,prX5 s58,λH9 s10=>?_⟩;rw[sY];walk_at"rx";refine aD (lb rfl) λv hv=>?_;walk_at"rx";refine⟨v,[((Vbpoal.nsum ((r.map fJ).map λp=>p.amount):Nat):Int)],rfl,ac,lb rfl,λHa pa sa hpa hla=>?_⟩;refine fy (LI.same sa (LI.same (sN hv) (LI.same s10 hl8))) hla (by show(((Vbpoal.nums n).map f).length+1+1)+2<=5000;omega) λHb pb sb hpb hlb=>?_;have s5a:=((s58.trans s10).trans (sN hv)).trans sa;exact k.same hB (s5.trans (s5a.trans sb)) (s5.none_of (s5a.none_of hpb)) hlb
     walk_at"rx";rw[length_map,length_map];refine aY (λh2=>?_) (λh2=>?_)
     .have e0:(Vbpoal.nums n).filter (λh=>f h != 0)=[]:=List.length_eq_zero_iff.mp (by omega);rw[if_pos (all_eq_true.mpr λa ha=>by
       have:=List.filter_eq_nil_iff.mp e0 a ha;simpa using this)]at k
      exact fin 1 k
     .rw[if_neg (λq=>h2 (by
       have e0:(Vbpoal.nums n).filter (λh=>f h != 0)=[]:=List.filter_eq_nil_iff.mpr λa ha=>by have:=all_eq_true.mp q a ha;simpa using this
       rw[e0];rfl))]at k
      exact fin 0 k
theorem rz:∀(k:Nat) (as bs:List (Nat×Nat)) {p:Vbpoal.Payment},p∈Vbpoal.paidIn k as bs->p.from_∈as.map (·.1)/\p.to∈bs.map (·.1)
 |0,_,_,_,h=>by cases h
 |_+1,[],_,_,h=>by cases h
 |_+1,_::_,[],_,h=>by cases h
 |k+1,a::l,b::m,p,h=>by
  have h:p∈(⟨a.1,b.1,min a.2 b.2⟩:Vbpoal.Payment)::Vbpoal.paidIn k (if a.2=min a.2 b.2 then l else(a.1,a.2-min a.2 b.2)::l) (if b.2=min a.2 b.2 then m else(b.1,b.2-min a.2 b.2)::m):=h;rcases mem_cons.mp h with h|h
  .rw[h];exact⟨mem_cons_self,mem_cons_self⟩
  .obtain⟨h1,h2⟩:=rz k _ _ h;refine⟨?_,?_⟩
   .by_cases e:a.2=min a.2 b.2
    .rw[if_pos e]at h1;exact mem_cons_of_mem _ h1
    .rw[if_neg e]at h1;exact h1
   .by_cases e:b.2=min a.2 b.2
    .rw[if_pos e]at h2;exact mem_cons_of_mem _ h2
    .rw[if_neg e]at h2;exact h2
theorem De {s:Vbpoal.State}(wf:Wf s){p:Vbpoal.Payment}(h:p∈Vbpoal.plan s):tJ s.houses.length (fC p):=by unfold Vbpoal.plan at h;obtain⟨g,hg,hp⟩:=List.mem_flatMap.mp h;rw[gD wf]at hg;obtain⟨o1,o2,o3,o4⟩:=wk (j8 _ _ hg).1;obtain⟨h1,h2⟩:=rz _ _ _ hp;rw[map_map]at h1 h2;obtain⟨x,hx,e1⟩:=mem_map.mp h1;obtain⟨y,hy,e2⟩:=mem_map.mp h2;have i1:=o2 x.1 (mem_map.mpr ⟨x,(mem_filter.mp hx).1,rfl⟩);have i2:=o2 y.1 (mem_map.mpr ⟨y,(mem_filter.mp hy).1,rfl⟩);have e1:x.1=p.from_:=e1;have e2:y.1=p.to:=e2;rw[e1]at i1;rw[e2]at i2;exact⟨i1,i2⟩
theorem Wf.setSt {s:Vbpoal.State}(wf:Wf s){n:Nat}{x y:Vbpoal.Statement}(hx:x∈s.statements)(h1:y.from_=x.from_)(h2:y.to=x.to):Wf (setStatement s n y):=by
 obtain⟨a1,a2,a3,a4,a5,a6,a7,a8⟩:=wf;refine⟨a1,a2,a3,a4,?_,λz hz=>?_,a7,a8⟩
 .show(s.statements.set (n-1) y).length<=100;rw[length_set];exact a5
 .rcases List.mem_or_eq_of_mem_set hz with q|q
  .exact a6 z q
  .have:=a6 x hx;unfold nu at this ⊢;rw[q];show tJ s.houses.length (y.from_,y.to,y.figure);rw[h1,h2];exact this
theorem vj {s:Vbpoal.State}(wf:Wf s){n:Int}{f:Nat->Vbpoal.Statement->Vbpoal.State×Ans}(h:∀k x,x∈s.statements->Wf (f k x).1):Wf (Vbpoal.onStatement s n f).1:=by
 unfold Vbpoal.onStatement;split
 .exact wf
 .split
  .exact wf
  .rename_i x e;exact h _ x (mem_of_getElem? e)
theorem xW {n:Nat}(h:2<=n/\n<=10):Wf (EN n):=by
 refine⟨?_,λh' hh=>?_,λx hx=>(by cases hx),List.nodup_nil,zero_le _,λx hx=>(by cases hx),zero_le _,λx hx=>(by cases hx)⟩
 .show 2<=(replicate n noHouse).length/\(replicate n noHouse).length<=10;rw[List.length_replicate];exact h
 .have:h'=noHouse:=List.eq_of_mem_replicate hh;rw[this];exact⟨⟨by decide,by decide⟩,⟨by decide,by decide⟩,by decide,by decide⟩
theorem BH:Wf Vbpoal.start:=xW (n:=2) ⟨by decide,by decide⟩
theorem bz {c:Prop}[Decidable c]{a b:Vbpoal.State×Ans}(h1:c->Wf a.1)(h2:¬c->Wf b.1):Wf (if c then a else b).1:=by
 by_cases h:c
 .rw[if_pos h];exact h1 h
 .rw[if_neg h];exact h2 h
theorem nq {n a b:Int}(h:¬inside n a b=false):a<=n/\n<=b:=az.mp (by cases e:inside n a b with|true=>rfl|false=>exact absurd e h)
theorem Df {s:Vbpoal.State}(wf:Wf s)(c:Vbpoal.Call):Wf (Vbpoal.step s c).1:=by
 cases c with
 |begin n=>exact bz (λ_=>wf) (λh=>by have:=nq h;exact xW (by omega))
 |rates h a b c=>
  rw[pH];refine bz (λ_=>wf) (λh1=>bz (λ_=>wf) (λh2=>?_));have ha:=nq λq=>h1 (.inl q);have hb:=nq λq=>h1 (.inr (.inl q));have hc:=nq λq=>h1 (.inr (.inr q));obtain⟨a1,a2,a3,a4,a5,a6,a7,a8⟩:=wf;refine⟨?_,λh' hh=>?_,a3,a4,a5,λx hx=>?_,a7,λx hx=>?_⟩
  .show 2<=(s.houses.set _ _).length/\(s.houses.set _ _).length<=10;rw[length_set];exact a1
  .rcases List.mem_or_eq_of_mem_set hh with q|q
   .exact a2 h' q
   .rw[q];refine⟨⟨?_,?_⟩,⟨?_,?_⟩,?_,?_⟩
    .show(0:Int)<=((a.toNat:Nat):Int);omega
    .show((a.toNat:Nat):Int)<=1000000;omega
    .show(0:Int)<=((b.toNat:Nat):Int);omega
    .show((b.toNat:Nat):Int)<=1000000;omega
    .show(0:Int)<=((c.toNat:Nat):Int);omega
    .show((c.toNat:Nat):Int)<=1000000;omega
  .show tJ (s.houses.set _ _).length _;rw[length_set];exact a6 x hx
  .show tJ (s.houses.set _ _).length _;rw[length_set];exact a8 x hx
 |money k r=>
  rw[pJ];refine bz (λ_=>wf) (λh1=>?_);have hk:=nq λq=>h1 (.inl q);have hr:=nq λq=>h1 (.inr q);obtain⟨a1,a2,a3,a4,a5,a6,a7,a8⟩:=wf;refine⟨a1,a2,λx hx=>?_,?_,a5,a6,a7,a8⟩
  .rcases mem_cons.mp hx with q|q
   .rw[q];show(1<=k.toNat/\k.toNat<=9)/\1<=r.toNat/\r.toNat<=100000000;omega
   .exact a3 x (mem_filter.mp q).1
  .show(((k.toNat,r.toNat)::s.rates.filter λx=>(x.1:Int) != k).map (·.1)).Nodup;rw[map_cons,nodup_cons];refine⟨λq=>?_,List.Nodup.sublist (List.filter_sublist.map _) a4⟩;obtain⟨x,hx,e⟩:=mem_map.mp q;have:=(mem_filter.mp hx).2;have e:x.1=k.toNat:=e;rw[bne_iff_ne]at this;omega
 |day n=>
  rw[vd];refine bz (λ_=>wf) (λh1=>bz (λ_=>wf) (λh2=>?_));obtain⟨a1,a2,a3,a4,a5,a6,a7,a8⟩:=wf;refine⟨a1,a2,a3,a4,?_,λx hx=>?_,a7,a8⟩
  .show(s.statements.map _).length<=100;rw[length_map];exact a5
  .obtain⟨y,hy,rfl⟩:=mem_map.mp hx;have:=a6 y hy;unfold aged;show tJ s.houses.length _;split
   .exact this
   .split
    .exact this
    .exact this
 |send b=>
  refine bz (λ_=>wf) (λh1=>?_);unfold doSend;split
  .exact wf
  .rename_i t et;refine bz (λ_=>wf) (λh2=>?_);split
   .exact wf
   .rename_i n en;refine bz (λ_=>wf) (λh3=>bz (λ_=>wf) (λh4=>?_));obtain⟨o1,o2,o3,o4⟩:=sX et;obtain⟨a1,a2,a3,a4,a5,a6,a7,a8⟩:=wf;have eS:STATEMENTS=100:=rfl;refine⟨a1,a2,a3,a4,?_,λx hx=>?_,a7,a8⟩
    .show(s.statements++[_]).length<=100;rw[length_append];show s.statements.length+1<=100;omega
    .rcases mem_append.mp hx with q|q
     .exact a6 x q
     .rw[mem_singleton.mp q];show(1<=t.from_/\t.from_<=s.houses.length)/\1<=t.to/\t.to<=s.houses.length;omega
 |accept n=>exact vj wf λk x hx=>bz (λ_=>wf) (λ_=>wf.setSt hx rfl rfl)
 |dispute n a=>
  rw[show Vbpoal.step s (.dispute n a)=if inside a 0 1000000000000=false then Vbpoal.no s 1 else Vbpoal.onStatement s n λk x=>if x.state≠1 then Vbpoal.no s 6 else if (x.full:Int)<=a then Vbpoal.no s 7 else if 20*(x.full-a.toNat)<=x.full then yes (setStatement s k { x with state:=3,figure:=meanOf x.full a.toNat }) 3 [[(meanOf x.full a.toNat:Int)]] else yes (setStatement s k { x with state:=2,since:=s.day,figure:=a.toNat }) 2 [[a]]from rfl];exact bz (λ_=>wf) (λ_=>vj wf λk x hx=>bz (λ_=>wf) (λ_=>bz (λ_=>wf) (λ_=>bz (λ_=>wf.setSt hx rfl rfl) (λ_=>wf.setSt hx rfl rfl))))
 |yield n=>exact vj wf λk x hx=>bz (λ_=>wf) (λ_=>wf.setSt hx rfl rfl)
 |stand n=>exact vj wf λk x hx=>bz (λ_=>wf) (λ_=>wf.setSt hx rfl rfl)
 |statement n=>exact vj wf λk x hx=>wf
 |owes a b=>exact bz (λ_=>wf) (λ_=>wf)
 |position a=>exact bz (λ_=>wf) (λ_=>wf)
 |plan=>exact wf
 |pay a b n=>
  rw[ve];refine bz (λ_=>wf) (λh1=>bz (λ_=>wf) (λh2=>bz (λ_=>wf) (λh3=>bz (λ_=>wf) (λh4=>?_))));have ha:=nq (n:=a) λq=>h2 (.inl q);have hb:=nq (n:=b) λq=>h2 (.inr q);obtain⟨a1,a2,a3,a4,a5,a6,a7,a8⟩:=wf;have eP:PAYMENTS=400:=rfl;refine⟨a1,a2,a3,a4,a5,a6,?_,λx hx=>?_⟩
  .show(s.payments++[_]).length<=400;rw[length_append];show s.payments.length+1<=400;omega
  .rcases mem_append.mp hx with q|q
   .exact a8 x q
   .rw[mem_singleton.mp q];show(1<=a.toNat/\a.toNat<=s.houses.length)/\1<=b.toNat/\b.toNat<=s.houses.length;omega
 |settle=>
  rw[show Vbpoal.step s .settle=if (Vbpoal.plan s).isEmpty=true then Vbpoal.no s 6 else if PAYMENTS<s.payments.length+(Vbpoal.plan s).length then Vbpoal.no s 8 else yes { s with payments:=s.payments++Vbpoal.plan s } (Vbpoal.plan s).length [(Vbpoal.plan s).flatMap paymentRow]from rfl];refine bz (λ_=>wf) (λh1=>bz (λ_=>wf) (λh2=>?_));have pin:=λp (h:p∈Vbpoal.plan s)=>De wf h;obtain⟨a1,a2,a3,a4,a5,a6,a7,a8⟩:=wf;have eP:PAYMENTS=400:=rfl;refine⟨a1,a2,a3,a4,a5,a6,?_,λx hx=>?_⟩
  .show(s.payments++Vbpoal.plan s).length<=400;rw[length_append];omega
  .rcases mem_append.mp hx with q|q
   .exact a8 x q
   .exact pin x q
 |judge l=>
  show Wf (match threes l with|none=>Vbpoal.no s 2|some r=>_).1;split
  .exact wf
  .exact bz (λ_=>wf) (λ_=>wf)
 |read b=>
  refine bz (λ_=>wf) (λ_=>?_);split
  .exact wf
  .exact wf
 |payments f=>exact bz (λ_=>wf) (λ_=>wf)
 |groups=>exact wf
 |counts=>exact wf
theorem BI {s:Vbpoal.State}(wf:Wf s)(c:List (List Int)):Wf (VbpoalNeutral.step s c).1:=by
 unfold VbpoalNeutral.step;split
 .exact wf
 .exact Df wf _
def F1 (p:Int):Fn:=if p=0 then .begin else if p=1 then .set_rates else if p=2 then .set_money else if p=3 then .go_on_days else if p=4 then .send else if p=5 then .accept else if p=6 then .dispute else if p=7 then .yield_to_other else if p=8 then .stand_on_full else if p=9 then .tell_statement else if p=10 then .tell_debt else if p=11 then .tell_position else if p=12 then .tell_plan else if p=13 then .pay else if p=14 then .settle else if p=15 then .judge else if p=16 then .read_out else if p=17 then .tell_payments else if p=18 then .tell_groups else .tell_counts
theorem hZ {Pr:Int->Nat->Nat->Prop}(h0:Pr 0 1 0)(h1:Pr 1 4 0)(h2:Pr 2 2 0)(h3:Pr 3 1 0)(h4:Pr 4 0 1)(h5:Pr 5 1 0)(h6:Pr 6 2 0)(h7:Pr 7 1 0)(h8:Pr 8 1 0)(h9:Pr 9 1 0)(h10:Pr 10 2 0)(h11:Pr 11 1 0)(h12:Pr 12 0 0)(h13:Pr 13 3 0)(h14:Pr 14 0 0)(h15:Pr 15 0 1)(h16:Pr 16 0 1)(h17:Pr 17 1 0)(h18:Pr 18 0 0)(h19:Pr 19 0 0)
  {p:Int} {n k:Nat} (h:PyVbpoal.shape p=some (n,k)):Pr p n k:=by
 have hp:p=0\/p=1\/p=2\/p=3\/p=4\/p=5\/p=6\/p=7\/p=8\/p=9\/p=10\/p=11\/p=12\/p=13\/p=14\/p=15\/p=16\/p=17\/p=18\/p=19:=by refine Classical.byContradiction λq=>?_;simp only[not_or]at q;obtain⟨q0,q1,q2,q3,q4,q5,q6,q7,q8,q9,q10,q11,q12,q13,q14,q15,q16,q17,q18,q19⟩:=q;unfold PyVbpoal.shape at h;rw[if_neg q0,if_neg q1,if_neg q2,if_neg q3,if_neg q4,if_neg q5,if_neg q6,if_neg q7,if_neg q8,if_neg q9,if_neg q10,if_neg q11,if_neg q12,if_neg q13,if_neg q14,if_neg q15,if_neg q16,if_neg q17,if_neg q18,if_neg q19]at h;cases h
 rcases hp with rfl|rfl|rfl|rfl|rfl|rfl|rfl|rfl|rfl|rfl|rfl|rfl|rfl|rfl|rfl|rfl|rfl|rfl|rfl|rfl<;>cases h<;>assumption
structure Tc (P:Program)(w:World)(K:PySem.W.Frag)(mg:Str->Option Value)(ad:Fn->Addr)(cb:Addr):Prop where
 r_CALLS:mg "CALLS"=some (.ref cb)
 tab:∃kvs,gO P w K cb kvs/\∀p n k,PyVbpoal.shape p=some (n,k)->∃t,cS kvs (.inl p)=some (.ref t)/\∀H,eB K H t [.ref (ad (F1 p)),.int (n:Int),.int (k:Int)]
section
variable {P:Program}{w:World}{K:PySem.W.Frag}{mg:Str->Option Value}{base:Heap}{ad:Fn->Addr}{fdt:Fn->FuncData}{tp tc eb hb cb:Addr}
theorem df {nm:Str}{st:Stmt}{ps:List Str}{f:Addr}{fd:FuncData}{sp:Sp}{k:Nat}(B:dC K mg nm st ps f fd)(F:aG P w K mg base bO k f fd ps sp):r8 P w K mg base k f sp:=⟨fd,ps,F,B.fn.kp,B.b⟩
theorem zj (T:Tx K mg ad fdt)(TF:uX mg base fdt tc tp)(M:Tm P w K mg eb hb){p:Int}{n k:Nat}(h:PyVbpoal.shape p=some (n,k)):r8 P w K mg base 8 (ad (F1 p)) (n8 ad tp p):=hZ (Pr:=λp _ _=>r8 P w K mg base 8 (ad (F1 p)) (n8 ad tp p)) (df T.f_begin (By T)) (df T.f_set_rates (sS T)) (df T.f_set_money (sU T)) (df T.f_go_on_days (qd T)) (df T.f_send (Dd T M)) (df T.f_accept (ze T)) (df T.f_dispute (wy T)) (df T.f_yield_to_other (BC T)) (df T.f_stand_on_full (BB T)) (df T.f_tell_statement (lP T)) (df T.f_tell_debt (sW T)) (df T.f_tell_position (mK T)) (df T.f_tell_plan (sZ T TF)) (df T.f_pay (EW T)) (df T.f_settle (zi T TF)) (df T.f_judge (BG T)) (df T.f_read_out (vg T M)) (df T.f_tell_payments (mL T)) (df T.f_tell_groups (pN T TF)) (df T.f_tell_counts (pK T)) h
theorem BJ {p:Int}{n k:Nat}(h:PyVbpoal.shape p=some (n,k)):n<=100/\k<=100:=hZ (Pr:=λ_ n k=>n<=100/\k<=100) (by decide) (by decide) (by decide) (by decide) (by decide) (by decide) (by decide) (by decide) (by decide) (by decide) (by decide) (by decide) (by decide) (by decide) (by decide) (by decide) (by decide) (by decide) (by decide) (by decide) h
inductive xX (K:PySem.W.Frag)(tp:Addr)(vs:List V)(H:Hp)(Q:VK)(E:XK):Prop
 |mk (ca:Addr)(ns:List Int)(cs:List (List (List Int)))(_:vs=[.ref ca])(_:aR K H ca (ns.map V.int))(_:fx tp H)(_:DW ns cs)(_:ns.length<=16000)(_:(PyVbpoal.answers ns).length<=10000000)(_:∀(H':Hp) (la:Addr),LI H' la (PyVbpoal.answers ns)->Q (.ref la) H')
theorem vk:∀(k:Nat) {r:List Int} {xs:List (List Int)} {t:List Int},PyFlat.rows k r=some (xs,t)->t.length<=r.length
 |0,r,xs,t,h=>by cases h;exact Nat.le_refl _
 |k+1,r,xs,t,h=>by obtain⟨n,r',xs',rfl,hn,rfl,h2⟩:=uP h;have:=vk k h2;rw[length_drop]at this;rw[length_cons];omega
theorem aA.but {H H':Hp}{B:BA}{s:Vbpoal.State}{ra C d ca:Addr}{j:Int}(h:aA ad H B s)(hr:H ra=some (.ins C d (pd ca j)))(e:kQ ra H H'):aA ad H' B s:=by obtain⟨⟨dx,a1⟩,a2,a3,⟨kvs,a4,a5⟩,a6,a7,a8,a9,a10,a11⟩:=h;exact⟨⟨dx,e _ _ a1 (aP a1 hr λz=>(by decide:("day":Str) ≠ "calls") (congrArg Bm z))⟩,e _ _ a2 (aP a2 hr (by intro z;cases z)),aK a3 λ_ _ _ ⟨d,q⟩=>⟨d,e _ _ q (aP q hr λz=>(by decide:("kilogram":Str) ≠ "calls") (congrArg Bm z))⟩,⟨kvs,e _ _ a4 (aP a4 hr (by intro z;cases z)),a5⟩,e _ _ a6 (aP a6 hr (by intro z;cases z)),aK a7 λ_ _ _ ⟨d,q⟩=>⟨d,e _ _ q (aP q hr λz=>(by decide:("sender":Str) ≠ "calls") (congrArg Bm z))⟩,a8,e _ _ a9 (aP a9 hr (by intro z;cases z)),aK a10 λ_ _ _ ⟨d,q⟩=>⟨d,e _ _ q (aP q hr λz=>(by decide:("payer":Str) ≠ "calls") (congrArg Bm z))⟩,a11⟩
theorem aR.keep {H H':Hp}{a:Addr}{xs:List V}(h:aR K H a xs)(k:∀o,H a=some o->H' a=some o):aR K H' a xs:=by
 rcases h with(h|⟨o,h⟩)|h
 .exact .inl (.inl (k _ h))
 .exact .inl (.inr ⟨o,k _ h⟩)
 .exact .inr h
theorem fx.keep {H H':Hp}(t:fx tp H)(k:∀a o,H a=some o->((∃ps,o = .tbl ps)\/∃x v,o = .frz x v)->H' a=some o):fx tp H':=by
 rcases t with e|⟨c',e,o,vs,tk,e1,e2⟩
 .exact .inl (k _ _ e (.inl ⟨_,rfl⟩))
 .exact .inr ⟨c',k _ _ e (.inl ⟨_,rfl⟩),o,vs,tk,k _ _ e1 (.inr ⟨_,_,rfl⟩),e2⟩
theorem wD (T:Tx K mg ad fdt)(TF:uX mg base fdt tc tp)(M:Tm P w K mg eb hb)(C:Tc P w K mg ad cb):aG P w K mg base bO 9 (ad .answers) (fdt .answers) ["calls"] (xX K tp):=by
 have G_Book___init__:=sP (P:=P) (w:=w) (base:=base) T;have tcl:E5 K (ad .CallList):=⟨T.k_CallList,T.n_CallList_calls,T.n_CallList_place⟩
 have G_CallList___init__:=mB (P:=P) (w:=w) (mg:=mg) (base:=base) T.i_CallList tcl;have G_CallList_at_end:=yK (P:=P) (w:=w) (base:=base) T.m_CallList_at_end.fn tcl T.n_len;have G_CallList_take_number:=gz (P:=P) (w:=w) (mg:=mg) (base:=base) T.m_CallList_take_number.fn tcl;have G_CallList_take_arguments:=lH (P:=P) (w:=w) (base:=base) T.m_CallList_take_arguments.fn tcl T.n_range T.m_CallList_take_number T.m_CallList_take_row;refine T.f_answers.fn.ok dN (λvs H Q E h=>?_) (λcdv A outer s H vs Q E hr h=>?_)
 .obtain⟨_,_,_,rfl,_⟩:=h
  rfl
 obtain⟨ca,ns,cs,rfl,hca,tab,ask,hlen,hshort,k⟩:=h;rw[v6 ask.dec]at k hshort;obtain⟨kvs,hcb,hcalls⟩:=C.tab;have hk:∀H2:Hp,(∀o,H ca=some o->(∀ps,o≠.tbl ps)->H2 ca=some o)->aR K H2 ca (ns.map V.int):=λH2 q=>by
  rcases hca with(h|⟨o,h⟩)|h
  .exact .inl (.inl (q _ h λps z=>by cases z))
  .exact .inl (.inr ⟨o,q _ h λps z=>by cases z⟩)
  .exact .inr h
 refine⟨_,(ae (aq (i:=1) dN.nd rfl (Or.inl rfl) (Am T.c_Book T.b_Book G_Book___init__ (hr.mono (by decide)))) (ae (aq (i:=2) dN.nd rfl (Or.inl rfl) (mS T.c_CallList T.b_CallList G_CallList___init__ (hr.mono (by decide)) (ab (pv 0) af))) (ae (aq (i:=3) dN.nd rfl (Or.inl rfl) (aw af)) (ae (k6 PassesOwn.never (dF (d4 (ff (pv 2) T.k_CallList T.m_CallList_at_end G_CallList_at_end (hr.mono (by decide))))) (ae (aq (i:=4) dN.nd rfl (Or.inl rfl) (xj (xi C.r_CALLS) (ff (pv 2) T.k_CallList T.m_CallList_take_number G_CallList_take_number (hr.mono (by decide))) (λ_ _=>rfl))) (ae (aq (i:=5) dN.nd rfl (Or.inl rfl) (cj (pv 2) T.k_CallList T.m_CallList_take_arguments G_CallList_take_arguments (hr.mono (by decide)) (ab (bf jv (pv 4) al (λ_ _=>rfl)) (ab (bf jv (pv 4) al (λ_ _=>rfl)) af)))) (ae (aq (i:=6) dN.nd rfl (Or.inl rfl) (bf jv (pv 4) al (λ_ _=>rfl))) (ae (aq (i:=7) dN.nd rfl (Or.inl rfl) (Af (k:=8) (i:=6) hr (ab (pv 1) (ab (pv 5) af)))) (ae (aV (dz PySem.F.plainAttrs_list PySem.F.slot_list_append PySem.F.type_list_append bZ (pv 3) (ab (aI ax (by rfl) T.n_len boot_len (ab (pv 7) af)) af))) (ai (aV (dz PySem.F.plainAttrs_list PySem.F.slot_list_extend PySem.F.type_list_extend dR (pv 3) (ab (pv 7) af)))))))))) (ai (ao (pv 3))))))),?_⟩;walk_at"prep";walk_at"rx";intro b db hb0 hdb0 ndb;refine⟨b,db,rfl,ac,λH1 B1 eb1 hB1 kp1 nw1=>⟨rfl,?_⟩⟩;have k1:au H H1:=λa o e=>kp1 a o (by rw[ah (aj e hb0),ah (aj e hdb0)];exact e) (aj e hb0);have new1:∀a,B1.F a->H a=none:=λa f=>by
  rcases nw1 a f with z|z
  .rw[z];exact hb0
  .by_cases q:a=b
   .rw[q];exact hb0
   .rw[ah q]at z;by_cases q2:a=db
    .rw[q2];exact hdb0
    .rw[ah q2]at z;exact z
 walk_at"rx";intro ra dr hra0 hdr0 ndr;refine⟨ra,dr,ca,rfl,ac,?_⟩;rw[bH];refine⟨rfl,?_⟩;have s2:au H1 (upd (upd H1 dr (.own ra)) ra (.ins (ad .CallList) dr (pd ca 0))):=((au.refl H1).upd_new hdr0).upd_new hra0;have hra2:upd (upd H1 dr (.own ra)) ra (.ins (ad .CallList) dr (pd ca 0)) ra=some (.ins (ad .CallList) dr (pd ca 0)):=ac;generalize upd (upd H1 dr (.own ra)) ra (.ins (ad .CallList) dr (pd ca 0))=H2 at *;walk_at"rx";refine aD (by decide) λta hta0=>?_;have s3:au H2 (upd H2 ta (.lst [])):=sN hta0;have hta3:upd H2 ta (.lst []) ta=some (.lst (([]:List Int).map V.int)):=ac;have nrt:ra≠ta:=aj hra2 hta0;generalize upd H2 ta (.lst [])=H3 at *;have hra3:=s3 _ _ hra2;have s13:=s2.trans s3;have sH3:=k1.trans s13;have B3:=hB1.same s13;have fra:¬B1.F ra:=λf=>by rcases hB1.kind f with⟨_,_,_,e⟩|⟨_,e⟩|⟨_,e⟩<;>rw[e]at hra0<;>cases hra0
 have fta:¬B1.F ta:=λf=>by have z:=s2.none_of hta0;rcases hB1.kind f with⟨_,_,_,e⟩|⟨_,e⟩|⟨_,e⟩<;>rw[e]at z<;>cases z
 have kCL:=T.k_CallList;have m1:=T.n_CallList_calls;have m2:=T.n_CallList_place;walk_at"rx";obtain⟨W,hW⟩:∃W:Nat->St->Hp->Prop,W=(λm σ H'=>∃(z4 z5 z6 z7:Option V) (B:BA) (st:Vbpoal.State) (j f:Nat) (done:List Int) (cs':List (List (List Int))),σ=[some (.ref ca),some (.ref B.b),some (.ref ra),some (.ref ta),z4,z5,z6,z7]/\m=ns.length-j/\aA ad H' B st/\Wf st/\H' ra=some (.ins (ad .CallList) dr (pd ca (j:Int)))/\j<=ns.length/\(∀o,H ca=some o->(∀ps,o≠.tbl ps)->H' ca=some o/\¬B.F ca)/\ H' ta=some (.lst (done.map V.int))/\fx tp H'/\¬B.F ra/\¬B.F ta/\PyFlat.calls PyVbpoal.shape f (ns.drop j)=some cs'/\(∀c∈cs',VbpoalNeutral.asked1 c=true)/\PyFlat.told (PyFlat.played VbpoalNeutral.step VbpoalNeutral.start cs)=done++PyFlat.told (PyFlat.played VbpoalNeutral.step st cs')):=⟨_,rfl⟩
 refine⟨W,⟨ns.length-0,?_⟩,?_⟩
 .rw[hW];exact⟨none,none,none,none,B1,Vbpoal.start,0,ns.length,[],cs,by rw[eb1];rfl,rfl,B3,BH,hra3,zero_le _,λo e _=>⟨sH3 _ _ e,λf=>by rw[new1 _ f]at e;cases e⟩,hta3,tab.mono sH3,fra,fta,ask.dec,ask.one,rfl⟩
 intro m σ H' hw;rw[hW]at hw;obtain⟨z4,z5,z6,z7,B,st,j,f,done,cs',rfl,hm,hB,wf,hra,hj,hcaH,hta,tb,fra,fta,hcalls',hask,hsum⟩:=hw;have hsl:aR K H' ca (ns.map V.int):=hk H' λo e n=>(hcaH o e n).1;walk_at"rx";refine⟨ra,ca,ns,j,rfl,⟨⟨dr,hra⟩,hsl⟩,?_⟩;walk_at"rx";by_cases hend:(ns.length:Int)<=(j:Int)
 .rw[decide_eq_true hend];have e0:ns.drop j=[]:=List.drop_eq_nil_of_le (by omega);rw[e0]at hcalls';rw[yM hcalls']at hsum;have hsum:PyFlat.told (PyFlat.played VbpoalNeutral.step VbpoalNeutral.start cs)=done++[]:=hsum;rw[append_nil]at hsum;walk_at"rx";refine k H' ta ?_;rw[hsum];exact hta
 .rw[decide_eq_false hend];have hjl:j<ns.length:=by omega
  have hz:ns[j]?=some ns[j]:=List.getElem?_eq_getElem hjl;generalize ns[j]=p at hz;rw[g0 hz]at hcalls';obtain⟨f',n,kk,xs,t,cs2,e1,e2,e3,e4,e5⟩:=yL hcalls';subst e5;obtain⟨tt,ht1,ht2⟩:=hcalls p n kk e1;obtain⟨ln,lk⟩:=BJ e1;refine Av ⟨λσ' H2=>∃m',m'<m/\W m' σ' H2,λσ' H2 h=>h,?_⟩;walk_at"rx";refine⟨ra,ca,dr,ns,j,p,rfl,hra,hsl,hz,?_⟩;have b1:kQ ra H' (upd H' ra (.ins (ad .CallList) dr (pd ca ((j+1:Nat):Int)))):=lF;have hra1:upd H' ra (.ins (ad .CallList) dr (pd ca ((j+1:Nat):Int))) ra=some (.ins (ad .CallList) dr (pd ca ((j+1:Nat):Int))):=ac;have fr1:∀a,upd H' ra (.ins (ad .CallList) dr (pd ca ((j+1:Nat):Int))) a=none->H' a=none:=λa e=>gC e;generalize upd H' ra (.ins (ad .CallList) dr (pd ca ((j+1:Nat):Int)))=H4 at *;refine⟨cb,kvs,.inl p,_,rfl,hcb,rfl,ht1,?_⟩;walk_at"rx";refine mR (ht2 _) (aO (j:=1) rfl) ?_;walk_at"rx";refine mR (ht2 _) (aO (j:=2) rfl) ?_;walk_at"rx";have ed:ns.drop (j+1+n)=(ns.drop (j+1)).drop n:=by rw[List.drop_drop]
  have e2':j+1+n<=ns.length:=by rw[length_drop]at e2;omega
  refine⟨ra,ca,dr,ns,j+1,n,kk,xs,t,rfl,hra1,aR.but hra b1 hsl,e2',hlen,ln,lk,by rw[ed];exact e3,λH5 aa rs j' haa0 b5 hra5 hj' hdr' haa5 hrows hfr=>?_⟩;have b15:kQ ra H' H5:=b1.trans b5;have aa0:=fr1 _ haa0;walk_at"rx";refine mR (ht2 _) (aO (j:=0) rfl) ?_;walk_at"rx";refine⟨_,_,rfl,zj (base:=base) T TF M e1,?_⟩;walk_at"rx";have hB5:=hB.but hra b15;have tb5:fx tp H5:=fx.keep tb λa o e ho=>b15 _ _ e (aP e hra (by rcases ho with⟨ps,rfl⟩|⟨x,v,rfl⟩<;>(intro z;cases z)));have hta5:H5 ta=some (.lst (done.map V.int)):=b15 _ _ hta (Ne.symm nrt);obtain⟨pz,hpz⟩:=dY.there tb5;have er:(p::(ns.drop (j+1)).take n)::xs=(p::(ns.drop (j+1)).take n)::xs:=rfl;refine⟨B,st,aa,(ns.drop (j+1)).take n,xs,rfl,hB5,wf,tb5,⟨rs,haa5,hrows⟩,hask _ mem_cons_self,λH6 B6 la hB6 f6 eb6 tb6 hla0 hla6=>?_⟩;generalize hC:(p::(ns.drop (j+1)).take n)::xs=c at *;have hsum2:PyFlat.told (PyFlat.played VbpoalNeutral.step VbpoalNeutral.start cs)=done++((((VbpoalNeutral.step st c).2.length:Int)::(VbpoalNeutral.step st c).2)++PyFlat.told (PyFlat.played VbpoalNeutral.step (VbpoalNeutral.step st c).1 cs2)):=hsum;have wf6:Wf (VbpoalNeutral.step st c).1:=BI wf c;generalize (VbpoalNeutral.step st c).1=st6 at *;generalize (VbpoalNeutral.step st c).2=an at *;have hta6:H6 ta=some (.lst (done.map V.int)):=f6.keep _ _ hta5 fta (aP hta5 hpz (by intro z;cases z));have hra6:H6 ra=some (.ins (ad .CallList) dr (pd ca (j':Int))):=f6.keep _ _ hra5 fra (aP hra5 hpz (by intro z;cases z));have nlt:la≠ta:=λe=>by rw[e,hta5]at hla0;cases hla0
  have lsum:=congrArg List.length hsum2;rw[length_append,length_append,length_cons]at lsum;have hla6':H6 la=some (.lst (an.map V.int)):=hla6;walk_at"rx";rw[length_map];refine fQ hta6 (by rw[length_map,sizeLine_eq];omega) ?_;have hta7:upd H6 ta (.lst (done.map V.int++[.int (an.length:Int)])) ta=some (.lst (done.map V.int++[.int (an.length:Int)])):=ac;have hla7:upd H6 ta (.lst (done.map V.int++[.int (an.length:Int)])) la=some (.lst (an.map V.int)):=by rw[ah nlt];exact hla6
  have b67:kQ ta H6 (upd H6 ta (.lst (done.map V.int++[.int (an.length:Int)]))):=lF;generalize upd H6 ta (.lst (done.map V.int++[.int (an.length:Int)]))=H7 at *;walk_at"rx";refine lh hta7 hla7 (by rw[length_append,length_map,length_map,sizeLine_eq];show _+1+_<=_;omega) ?_;have hta8:upd H7 ta (.lst (done.map V.int++[.int (an.length:Int)]++an.map V.int)) ta=some (.lst (done.map V.int++[.int (an.length:Int)]++an.map V.int)):=ac;have b68:kQ ta H6 (upd H7 ta (.lst (done.map V.int++[.int (an.length:Int)]++an.map V.int))):=b67.trans lF;generalize upd H7 ta (.lst (done.map V.int++[.int (an.length:Int)]++an.map V.int))=H8 at *;have jlt:j<j':=by have q1:=vk _ e3;have q2:=congrArg List.length hdr';rw[length_drop]at q2;rw[length_drop,length_drop]at q1;omega
  have nF:∀{a:Addr} {o:HO},H5 a=some o->¬B.F a->¬B6.F a:=λ{a o} e nf f=>by
   rcases f6.new a f with z|z
   .exact nf z
   .rw[z]at e;cases e
  have nta:∀{a:Addr},B6.F a->a≠ta:=λ{a} f e=>nF hta5 fta (e▸f);have B8:aA ad H8 B6 st6:=by obtain⟨⟨dx,a1⟩,a2,a3,⟨kv,a4,a5⟩,a6,a7,a8,a9,a10,a11⟩:=hB6;have nl:∀{a C d fs},H6 a=some (.ins C d fs)->a≠ta:=λ{a C d fs} e=>aP e hta6 (by intro z;cases z);exact⟨⟨dx,b68 _ _ a1 (nl a1)⟩,b68 _ _ a2 (nta (.inr (.inl rfl))),aK a3 λ_ _ _ ⟨d,q⟩=>⟨d,b68 _ _ q (nl q)⟩,⟨kv,b68 _ _ a4 (nta (.inr (.inr (.inl rfl)))),a5⟩,b68 _ _ a6 (nta (.inr (.inr (.inr (.inl rfl))))),aK a7 λ_ _ _ ⟨d,q⟩=>⟨d,b68 _ _ q (nl q)⟩,a8,b68 _ _ a9 (nta (.inr (.inr (.inr (.inr (.inl rfl)))))),aK a10 λ_ _ _ ⟨d,q⟩=>⟨d,b68 _ _ q (nl q)⟩,a11⟩
  have tb8:fx tp H8:=fx.keep tb6 λa o e ho=>b68 _ _ e (aP e hta6 (by rcases ho with⟨ps,rfl⟩|⟨x,v,rfl⟩<;>(intro z;cases z)));refine⟨ns.length-j',by omega,?_⟩;rw[hW];refine⟨_,_,_,_,B6,st6,j',f',done++((an.length:Int)::an),cs2,by rw[eb6];rfl,rfl,B8,wf6,b68 _ _ hra6 nrt,hj',λo e no=>?_,?_,tb8,nF hra5 fra,nF hta5 fta,by rw[hdr'];exact e4,λc' hc'=>hask c' (mem_cons_of_mem _ hc'),by rw[hsum2,List.append_assoc]⟩
  .obtain⟨q1,q2⟩:=hcaH o e no;have n1:ca≠ra:=aj (k1 _ _ e) hra0;have n2:ca≠ta:=aj (s2 _ _ (k1 _ _ e)) hta0;have q5:=b15 _ _ q1 n1;have n3:ca≠tp:=λz=>by rw[z,hpz]at q5;exact no _ (Option.some.inj q5).symm
   exact⟨b68 _ _ (f6.keep _ _ q5 q2 n3) n2,nF q5 q2⟩
  .rw[hta8,map_append,map_cons,List.append_assoc];rfl
end
end Pc
namespace L2
open PyProof.Rows PySem.W
theorem wE {P:Program}{w:World}{K:PySem.W.Frag}{mg mb:Str->Option Value}{CX:zm}{k:Nat}{fa:Addr}{fd:FuncData}{ps:List Str}{sp:Sp}{s₁:Shared}{bV:List Value}{ds:List WData}{R:PySem.W.WRecords}{cl:Str->Option Addr}{d0:WData}{tc tp:Addr}
  (KX:K.In s₁.heap) (hns:s₁.heap.Ns mainGlobals mg) (hb:s₁.heap.Ns builtinsNs mb) (hbb:∀x:Str,x ≠ "__name__"->mb x=bootBuiltins x) (hlim:s₁.heap.NoLimit) (hg:s₁.gens = #[])
  (hcd:CodeHd s₁.heap tc tp) (htb:s₁.heap.get? tp=some (tabObj #[])) (hkp:K.lookup tp=none) (hbm:s₁.heap.BuiltinsAt mg tp)
  (hwl:WellAll w.params s₁.heap bV ds) (hpl:nA ds=true) (hwt:∀d∈ds,d.weight<=1048576) (hr:dk k callerA)
  (F:∀base:Heap,K.In base->base.Ns mainGlobals mg->CodeHd base tc tp->base.BuiltinsAt mg tp->aG P w K mg base CX k fa fd ps sp) (hbind:∀(s:Shared) (us:List Value),us.length=ps.length->BindsTo s fd ⟨us,[]⟩ (ps.zip us)) (hlen:ds.length=ps.length)
  (hsp:∀(H:Hp) (xs:List V),H tp=none->jA K H xs ds->sp xs (upd H tp (.tbl #[])) (λv H'=>Dw K H' v d0) λ_ _ _=>False)
  (hCX:∀H e s',CX [] H s₁ (λ_ _ _=>False) e s'->False) :
  codeAny (model P w) callerA (.call (.ref fa) ⟨bV,[]⟩) (λr s'=>∃u as,r = .ok (.ret u)/\ReadsW R cl s'.heap u d0 as/\OldK s₁.heap s'.heap/\s'.os=s₁.os/\AllBare s'.gens) s₁:=by
 obtain⟨A,ho,ar⟩:=lg ds bV hwl hpl hwt;have hO0:Dz (iq K s₁.heap A):=yr ar;have hok0:ji P w (iq K s₁.heap A) s₁.heap:=Cp ar;have hS:=r0 KX ar ds bV hwl hpl ho;have hV:=ip ho;have hK0:∀b u,iq K s₁.heap A b=some u->K.lookup b=none:=λb u q=>(nS ar q).1;have noS:∀{b:Addr} {o:Obj},s₁.heap.get? b=some o->(∀vs ep,o.data≠.seq vs ep)->iq K s₁.heap A b=none:=λ{b o} e d=>by
  cases q:iq K s₁.heap A b with
  |none=>rfl
  |some u=>
   obtain⟨_,vs,_,_,⟨e2,_⟩|⟨e2,_⟩⟩:=nS ar q
   .rw[e2]at e;cases e;exact absurd rfl (d _ _)
   .rw[e2]at e;cases e;exact absurd rfl (d _ _)
 have htn:iq K s₁.heap A tp=none:=noS htb λvs ep z=>by cases z
 generalize iq K s₁.heap A=H0 at hO0 hok0 hS hK0 noS htn;have qsp:=hsp H0 (bV.map tm) htn hS;have hT:upd H0 tp (.tbl #[]) tp=some (.tbl #[]):=ac;have hO:∀b,b≠tp->upd H0 tp (.tbl #[]) b=none\/∃o u,upd H0 tp (.tbl #[]) b=some (.frz o u):=λb n=>by rw[ah n];exact hO0 b
 have hok:ji P w (upd H0 tp (.tbl #[])) s₁.heap:=λb u q=>by
  by_cases z:b=tp
  .subst z;rw[ac]at q;cases q;exact htb
  .rw[ah z]at q;exact(hok0 b u q).stay (λd v hd r=>r) (λd r=>by rw[ah (aj r htn)];exact r) λd xs r=>by rw[ah (aj r htn)];exact r
 have hK:∀b u,upd H0 tp (.tbl #[]) b=some u->K.lookup b=none:=λb u q=>by
  by_cases z:b=tp
  .rw[z];exact hkp
  .rw[ah z]at q;exact hK0 b u q
 have noA:∀{b:Addr} {o:Obj},s₁.heap.get? b=some o->(∀vs ep,o.data≠.seq vs ep)->(∀vs,o.data≠.fields vs\/o.cls≠.none)->upd H0 tp (.tbl #[]) b=none:=λ{b o} e d d2=>by
  by_cases z:b=tp
  .subst z;rw[htb]at e;cases e;rcases d2 #[]with q|q
   .exact absurd rfl q
   .exact absurd rfl q
  .rw[ah z];exact noS e d
 generalize upd H0 tp (.tbl #[])=H at qsp hT hO hok hK noA;have base_of:∀{b:Addr} {o:Obj},s₁.heap.get? b=some o->H b=none->(oE s₁.heap H).get? b=some o:=λe n=>zz e n;have noD:∀{b:Addr} {o:Obj} {es:Array DictEntry} {ep:Nat},s₁.heap.get? b=some o->o.data = .dict es ep->H b=none:=λ{b o es ep} e d=>noA e (λvs ep z=>by rw[d]at z;cases z) λvs=>.inl λz=>by rw[d]at z;cases z
 have nsK:∀{b:Addr} {m:Str->Option Value},s₁.heap.Ns b m->(oE s₁.heap H).Ns b m:=λ{b m} ⟨o,es,ep,e,d,r⟩=>⟨o,es,ep,base_of e (noD e d),d,r⟩
 have nK:∀b o,K.lookup b=some o->H b=none:=λb o e=>by
  cases q:H b with
  |none=>rfl
  |some u=>
   rw[hK b u q]at e;cases e
 have hKb:K.In (oE s₁.heap H):=λb o e=>base_of (KX b o e) (nK b o e);have hcdb:CodeHd (oE s₁.heap H) tc tp:=by obtain⟨o,vs,file,tf,flags,tg,inF,text,tt,e1,e2,e3,r⟩:=hcd;exact⟨o,vs,file,tf,flags,tg,inF,text,tt,base_of e1 (noA e1 (λvs ep z=>by rw[e3]at z;cases z) λvs=>.inr (by rw[e2];intro z;cases z)),e2,e3,r⟩
 have hbmb:(oE s₁.heap H).BuiltinsAt mg tp:=by obtain⟨bm,o,h1,h2,h3,h4,h5,h6,h7,h8⟩:=hbm;exact⟨bm,o,h1,h2,h3,h4,base_of h5 (noA h5 (λvs ep z=>by rw[h8]at z;cases z) λvs=>.inl λz=>by rw[h8]at z;cases z),h6,h7,h8⟩
 have hM:Mod K mg (oE s₁.heap H):=⟨hKb,nsK hns,⟨mb,nsK hb,hbb⟩,let ⟨mc,h1,h2⟩:=hlim;⟨mc,nsK h1,h2⟩⟩
 have e0:vL P w K mg (oE s₁.heap H) callerA [] s₁ H:=⟨rfl,hM,λb o e=>BS e,le_of_eq (x6 _ _),trivial,λb hb=>absurd (show b∈([]:List Addr)from hb) (by simp),hok,.of_eq hg⟩
 have hl:bV.length=ps.length:=by rw[gN hwl];exact hlen
 refine codeAny_mono ((F _ hKb (nsK hns) hcdb hbmb).run callerA [] s₁ H ⟨bV,[]⟩ bV (bV.map tm) _ _ hr e0 (hbind s₁ bV hl) hV qsp) λr s' x=>?_;cases r with
 |error e=>exact(hCX H e s' x).elim
 |ok fl=>
  cases fl with
  |next=>exact False.elim x
  |brk=>exact False.elim x
  |cont=>exact False.elim x
  |ret u=>
   obtain⟨v,H',os,bare,un,hok',r',q⟩:=x;have kept:∀b o,b≠tp->s₁.heap.get? b=some o->s'.heap.get? b=some o:=λb o nb e=>by
    cases q2:H b with
    |none=>exact un.keep b o e q2 (by intro z;exact absurd (show b∈([]:List Addr)from z) (by simp)) (by simp)
    |some u2=>
     rcases hO b nb with z|⟨ob,u3,z⟩
     .rw[q2]at z;cases z
     .have z2:=un.frzs b ob _ z;obtain⟨e1,_⟩:=hok b _ z;obtain⟨e2,_⟩:=hok' b _ z2;rw[e]at e1;cases e1;exact e2
   have KX':K.In s'.heap:=λb o e=>kept b o (λz=>by rw[z,hkp]at e;cases e) (KX b o e);obtain⟨as,hrd⟩:=Dw.reads (R:=R) (cl:=cl) hok' KX' d0 v u q r';obtain⟨more,hmore⟩:=un.tbls tp #[] hT;have hT':s'.heap.get? tp=some { cls:=.none,data:=.fields (#[]++more) }:=hok' tp _ hmore;refine⟨u,as,rfl,hrd,⟨λb o e=>?_,λb o e=>?_⟩,os,bare⟩
   .by_cases z:b=tp
    .subst z;rw[htb]at e;cases e;refine .inr (.inl ⟨?_,rfl,#[],more,rfl,hT'⟩);obtain⟨o,vs,file,tf,flags,tg,inF,text,tt,e1,e2,e3,e4,r⟩:=hcd;exact⟨tc,o,vs,e1,e2,e3,e4⟩
    .exact .inl (kept b o z e)
   .by_cases z:b=tp
    .rw[z];exact⟨_,hT'⟩
    .exact⟨o,kept b o z e⟩
theorem wF {r:OpenSpec}{k:Nat}{q:Program}{loose:List Str}{XP:(Str->Option Value)->Heap->Prop}{YP:World->Heap->Prop}{d:DefRec}{K:Params->PySem.W.Frag}{CX:zm}{ps:List Str}{sp:PySem.W.Frag->Sp}{tc tp:Addr}{xt:Str}
  (hwell:r.wellSaid=true) (hdf:d.params.defaults=[]) (hlen:r.args.length=ps.length) (hr:dk k callerA)
  (hY:∀(w:World) (h:Heap),YP w h->(K w.params).In h)
  (hrec:((recsOf q).find? (λe=>e.name==xt)).isSome=true) (htab:∀p:Params,tabIn (K p) xt=some (tc,tp)) (hkp:∀p:Params,(K p).lookup tp=none)
  (F:∀(w:World) (mg:Str->Option Value) (fa:Addr) (h:Heap) (L:PySem.W.Frag),L=K w.params->YP w h->L.In h->h.Ns mainGlobals mg->mg d.name=some (.ref fa)-> ∃fd:FuncData,(∀(s:Shared) (us:List Value),us.length=ps.length->BindsTo s fd ⟨us,[]⟩ (ps.zip us))/\ ∀base:Heap,L.In base->base.Ns mainGlobals mg->CodeHd base tc tp->base.BuiltinsAt mg tp->aG r.prog w L mg base CX k fa fd ps (sp L))
  (hsp:∀(K:PySem.W.Frag) (H:Hp) (xs:List V) (a:Codec.denoteAll r.args),H tp=none->Codec.withinAll r.args a=true->Codec.app r.args r.asked a=true->jA K H xs (Codec.encAll r.args a)-> sp K xs (upd H tp (.tbl #[])) (λv H'=>Dw K H' v (r.ret.enc (Codec.app r.args r.f a))) λ_ _ _=>False)
  (hCX:∀(H:Hp) (s:Shared) (e:Value) (s':Shared),CX [] H s (λ_ _ _=>False) e s'->False) :
  PySem.W.WalkOS q loose XP YP r d [] (λf vs=>PySem.call f vs):=by
 intro w s_0 s₁ mg mb G Y fa o pm cd doc dV kV ho hd hcd hD hmg hg args bV as hpre hlay hrd hwl hlo;obtain⟨a,e1,e2⟩:=PySem.W.os_pre_some hpre;obtain⟨e3,hwi⟩:=Codec.encAll_of_decAll r.args args a e1;subst e3;have KX:=hY w _ Y;obtain⟨fd,hb,hF⟩:=F w mg fa _ _ rfl Y KX G.T.g hmg;obtain⟨dt,hdt⟩:=Option.isSome_iff_exists.mp hrec;obtain⟨t1,t2⟩:=PySem.W.tab_of G.T KX hdt (htab w.params);have t3:s₁.heap.BuiltinsAt mg tp:=by
  obtain⟨bm,ob,b1,b2,b3,b4,b5,b6⟩:=G.T.bmain;refine⟨bm,ob,b1,b2,λz=>?_,λz=>?_,b3,b4,b5,b6⟩
  .obtain⟨o',es,ep,g1,g2,_⟩:=G.T.g;rw[z,g1]at b3;cases b3;rw[g2]at b6;cases b6
  .rw[z,t2]at b3;cases b3;cases b6
 refine PySem.W.enter_call (codeAny_mono (wE (R:=[]) (cl:=classAt s_0.heap) (d0:=r.ret.enc (Codec.app r.args r.f a)) KX G.T.g G.T.b G.T.builtins G.T.nolimit hg t1 t2 (hkp _) t3 hwl (qF _ _) (oT hlay) hr hF hb (by rw[oU];exact hlen) (λH xs hO hS=>hsp _ H xs a hO hwi e2 hS) λH e s'=>hCX H s₁ e s') λr' s' hq=>?_);obtain⟨u,as',rfl,h1,h2,h3,h4⟩:=hq;exact⟨.inl ⟨u,_,as',rfl,λ_=>rfl,h1,(OpenSpec.post_iff hwell hwi _ _).mpr rfl,λz=>noConfusion (show false=true from z)⟩,h2,h3,h4⟩
end L2
namespace Pc
open L2 PyProof.Rows
section
variable {P:Program}{w:World}{K:PySem.W.Frag}{h:Heap}{mg:Str->Option Value}
def iE:Option (Option Value)->Addr
 |some (some (.ref a))=>a
 |_=>0
def Ho:FuncData:=fnOf "x" "x" (dA ly) (cU ly) (ak ly) .none .none .none .none none .none .none
def EZ (K:PySem.W.Frag)(a:Addr):FuncData:=match K.lookup a with
 |some ⟨_,_,.func fd,_⟩=>fd
 |_=>Ho
def GL:Fn->Str×Option Str
 |.Rates=>("Rates",none)
 |.Statement=>("Statement",none)
 |.Payment=>("Payment",none)
 |.Book=>("Book",none)
 |.CallList=>("CallList",none)
 |.Entry=>("Entry",none)
 |.Reading=>("Reading",none)
 |.Rates___init__=>("Rates",some "__init__")
 |.Statement___init__=>("Statement",some "__init__")
 |.Statement_agree_on=>("Statement",some "agree_on")
 |.Statement_dispute_since=>("Statement",some "dispute_since")
 |.Statement_mean_with=>("Statement",some "mean_with")
 |.Statement_agree_by_time=>("Statement",some "agree_by_time")
 |.Payment___init__=>("Payment",some "__init__")
 |.shift_positions=>("shift_positions",none)
 |.Book___init__=>("Book",some "__init__")
 |.Book_start_anew=>("Book",some "start_anew")
 |.Book_has_house=>("Book",some "has_house")
 |.Book_give_rates=>("Book",some "give_rates")
 |.Book_rates_of=>("Book",some "rates_of")
 |.Book_give_money_rate=>("Book",some "give_money_rate")
 |.Book_pass_days=>("Book",some "pass_days")
 |.Book_take_statement=>("Book",some "take_statement")
 |.Book_find_statement=>("Book",some "find_statement")
 |.Book_agreed_statements=>("Book",some "agreed_statements")
 |.Book_take_payment=>("Book",some "take_payment")
 |.Book_debt_of=>("Book",some "debt_of")
 |.Book_reckon_positions=>("Book",some "reckon_positions")
 |.CallList___init__=>("CallList",some "__init__")
 |.CallList_at_end=>("CallList",some "at_end")
 |.CallList_take_number=>("CallList",some "take_number")
 |.CallList_take_row=>("CallList",some "take_row")
 |.CallList_take_arguments=>("CallList",some "take_arguments")
 |.full_figure=>("full_figure",none)
 |.worth_of=>("worth_of",none)
 |.dues=>("dues",none)
 |.transit=>("transit",none)
 |.orders=>("orders",none)
 |.plan_payments=>("plan_payments",none)
 |.payments_within=>("payments_within",none)
 |.part_into_groups=>("part_into_groups",none)
 |.sums_of_choices=>("sums_of_choices",none)
 |.most_groups=>("most_groups",none)
 |.choices_without_one=>("choices_without_one",none)
 |.first_choice=>("first_choice",none)
 |.rank=>("rank",none)
 |.members=>("members",none)
 |.Entry___init__=>("Entry",some "__init__")
 |.Reading___init__=>("Reading",some "__init__")
 |.read_text=>("read_text",none)
 |.written=>("written",none)
 |.line_of=>("line_of",none)
 |.take_line=>("take_line",none)
 |.house_behind=>("house_behind",none)
 |.take_entry=>("take_entry",none)
 |.numbers_behind=>("numbers_behind",none)
 |.number_of=>("number_of",none)
 |.words_of=>("words_of",none)
 |.parts_between=>("parts_between",none)
 |.bytes_of=>("bytes_of",none)
 |.begin=>("begin",none)
 |.set_rates=>("set_rates",none)
 |.set_money=>("set_money",none)
 |.go_on_days=>("go_on_days",none)
 |.send=>("send",none)
 |.lacks_money_rate=>("lacks_money_rate",none)
 |.accept=>("accept",none)
 |.dispute=>("dispute",none)
 |.yield_to_other=>("yield_to_other",none)
 |.stand_on_full=>("stand_on_full",none)
 |.tell_statement=>("tell_statement",none)
 |.tell_debt=>("tell_debt",none)
 |.tell_position=>("tell_position",none)
 |.tell_plan=>("tell_plan",none)
 |.pay=>("pay",none)
 |.settle=>("settle",none)
 |.judge=>("judge",none)
 |.can_be_judged=>("can_be_judged",none)
 |.read_out=>("read_out",none)
 |.tell_payments=>("tell_payments",none)
 |.tell_groups=>("tell_groups",none)
 |.tell_counts=>("tell_counts",none)
 |.as_row=>("as_row",none)
 |.in_threes=>("in_threes",none)
 |.sum_of=>("sum_of",none)
 |.refusal_of_text=>("refusal_of_text",none)
 |.agree_on_full=>("agree_on_full",none)
 |.refusal_unless_in_state=>("refusal_unless_in_state",none)
 |.refusal_unless_statement=>("refusal_unless_statement",none)
 |.answers=>("answers",none)
def rA (K:PySem.W.Frag)(x:Fn):Addr:=match GL x with
 |(c,none)=>iE (nsIn K mainGlobals c)
 |(c,some m)=>iE (findIn K (.ref (iE (nsIn K mainGlobals c))) m)
def BN (K:PySem.W.Frag)(x:Fn):FuncData:=EZ K (rA K x)
theorem tj {f:Addr}{oc:Value}{od:Option Addr}{fd:FuncData}{osl:Array (Option Value)}(l:K.lookup f=some ⟨oc,od,.func fd,osl⟩):EZ K f=fd:=by unfold EZ;rw[l]
theorem aU {i:Fn}{x:Str}{st:Stmt}{f:Addr}{oc:Value}{od an:Option Addr}{osl:Array (Option Value)}{kV doc pm cdv ct:Value}{ps:List Str}(KX:K.In h)(G:h.Ns mainGlobals mg)
  (a:nsIn K mainGlobals x=some (some (.ref f))) (l:K.lookup f=some ⟨oc,od,.func (fnOf x x (dA st) (cU st) (ak st) .none kV doc pm an cdv ct),osl⟩) (c:codeIn K cdv x=true) (k:keepIn K (.ref f)=true)
  (b:∀(kV doc pm:Value) (an:Option Addr) (cdv ct:Value) (us:List Value),us.length=ps.length->bindArgs (fnOf x x (dA st) (cU st) (ak st) .none kV doc pm an cdv ct) ⟨us,[]⟩=pure (ps.zip us))
  (hi:rA K i=iE (nsIn K mainGlobals x):=by rfl):dC K mg x st ps (rA K i) (BN K i):=by
 have e:rA K i=f:=by rw[hi,a];rfl
 have e2:BN K i=fnOf x x (dA st) (cU st) (ak st) .none kV doc pm an cdv ct:=by unfold BN;rw[e];exact tj l
 rw[e,e2];exact⟨mj l c k,fX.binds (mj l c k) b,mg_of KX G a⟩
theorem dh {i j:Fn}{y x q:Str}{st:Stmt}{C f:Addr}{oc:Value}{od an:Option Addr}{osl:Array (Option Value)}{kV doc pm cdv ct:Value}{ps:List Str}(aC:nsIn K mainGlobals y=some (some (.ref C)))
  (a:findIn K (.ref C) x=some (some (.ref f))) (n:isFn K (.ref f)=true) (l:K.lookup f=some ⟨oc,od,.func (fnOf x q (dA st) (cU st) (ak st) .none kV doc pm an cdv ct),osl⟩) (c:codeIn K cdv q=true) (k:keepIn K (.ref f)=true)
  (b:∀(kV doc pm:Value) (an:Option Addr) (cdv ct:Value) (us:List Value),us.length=ps.length->bindArgs (fnOf x q (dA st) (cU st) (ak st) .none kV doc pm an cdv ct) ⟨us,[]⟩=pure (ps.zip us))
  (hi:rA K i=iE (nsIn K mainGlobals y):=by rfl) (hj:rA K j=iE (findIn K (.ref (iE (nsIn K mainGlobals y))) x):=by rfl):lT K (rA K i) x q st ps (rA K j) (BN K j):=by
 have e:rA K i=C:=by rw[hi,aC];rfl
 have e1:rA K j=f:=by rw[hj,aC];show iE (findIn K (.ref C) x)=f;rw[a];rfl
 have e2:BN K j=fnOf x q (dA st) (cU st) (ak st) .none kV doc pm an cdv ct:=by unfold BN;rw[e1];exact tj l
 rw[e,e1,e2];exact⟨mj l c k,fX.binds (mj l c k) b,⟨a,n,k⟩⟩
structure CB (K:PySem.W.Frag)(mg:Str->Option Value)(x q:Str)(st:Stmt)(ps:List Str)(C f:Addr)(fd:FuncData):Prop where
 k:lS K C
 c:zn K mg x C f
 i:fX K "__init__" q st f fd
 b:dm K fd ps []
theorem pQ {Goal:Prop}(i j:Fn){x q:Str}{st:Stmt}{C f:Addr}{oc:Value}{od an:Option Addr}{osl:Array (Option Value)}{kV doc pm cdv ct:Value}{ps:List Str}(KX:K.In h)(G:h.Ns mainGlobals mg)
  (aC:nsIn K mainGlobals x=some (some (.ref C))) (in0:findIn K (.ref C) "__init__"=some (some (.ref f))) (pg:plainGet K C Str.empty=true) (hd:hasDictIn K C=true) (po:plainOver K C=true)
  (sa:findIn K (.ref C) "__setattr__"=some (some (.builtin "object.__setattr__"))) (mk:makesIn K C=true) (fn0:isFn K (.ref f)=true) (kc:keepIn K (.ref C)=true)
  (l:K.lookup f=some ⟨oc,od,.func (fnOf "__init__" q (dA st) (cU st) (ak st) .none kV doc pm an cdv ct),osl⟩) (c:codeIn K cdv q=true) (k:keepIn K (.ref f)=true)
  (b:∀(kV doc pm:Value) (an:Option Addr) (cdv ct:Value) (us:List Value),us.length=ps.length->bindArgs (fnOf "__init__" q (dA st) (cU st) (ak st) .none kV doc pm an cdv ct) ⟨us,[]⟩=pure (ps.zip us))
  (go:CB K mg x q st ps (rA K i) (rA K j) (BN K j)->Goal)
  (hi:rA K i=iE (nsIn K mainGlobals x):=by rfl) (hj:rA K j=iE (findIn K (.ref (iE (nsIn K mainGlobals x))) "__init__"):=by rfl):Goal:=by
 refine go ?_;have e:rA K i=C:=by rw[hi,aC];rfl
 have e1:rA K j=f:=by rw[hj,aC];show iE (findIn K (.ref C) "__init__")=f;rw[in0];rfl
 have e2:BN K j=fnOf "__init__" q (dA st) (cU st) (ak st) .none kV doc pm an cdv ct:=by unfold BN;rw[e1];exact tj l
 rw[e,e1,e2];exact⟨⟨pg,hd,po,sa⟩,⟨⟨pg,hd,po,sa⟩,⟨mk,in0,fn0,kc⟩,mg_of KX G aC⟩,mj l c k,fX.binds (mj l c k) b⟩
theorem di {i:Fn}{y f:Str}{C:Addr}(aC:nsIn K mainGlobals y=some (some (.ref C)))(a:findIn K (.ref C) f=some none)(hi:rA K i=iE (nsIn K mainGlobals y):=by rfl):aN K (rA K i) f:=by
 have e:rA K i=C:=by rw[hi,aC];rfl
 rw[e];exact a
theorem bU {x:Str}{i:Int}{t:Tok}(KX:K.In h)(G:h.Ns mainGlobals mg)(a:nsIn K mainGlobals x=some (some (.int i t))):∃t,mg x=some (.int i t):=⟨t,mg_of KX G a⟩
theorem BK {x:Str}{f c p:Addr}{oc:Value}{od:Option Addr}{fd:FuncData}{osl:Array (Option Value)}{oc2:Value}{od2:Option Addr}{vs:Array Value}{osl2:Array (Option Value)}
  (a:nsIn K mainGlobals x=some (some (.ref f))) (l:K.lookup f=some ⟨oc,od,.func fd,osl⟩) (e:fd.code = .ref c) (l2:K.lookup c=some ⟨oc2,od2,.fields vs,osl2⟩) (e2:vs[11]?=some (.ref p)):PySem.W.tabIn K x=some (c,p):=by
 unfold PySem.W.tabIn;rw[a];simp only[l,e,l2,e2]
def F2 (p:Int):Str:=if p=0 then "begin" else if p=1 then "set_rates" else if p=2 then "set_money" else if p=3 then "go_on_days" else if p=4 then "send" else if p=5 then "accept" else if p=6 then "dispute" else if p=7 then "yield_to_other" else if p=8 then "stand_on_full" else if p=9 then "tell_statement" else if p=10 then "tell_debt" else if p=11 then "tell_position" else if p=12 then "tell_plan" else if p=13 then "pay" else if p=14 then "settle" else if p=15 then "judge" else if p=16 then "read_out" else if p=17 then "tell_payments" else if p=18 then "tell_groups" else "tell_counts"
theorem Dg {ad:Fn->Addr}{fdt:Fn->FuncData}{fa tc tp eb hb cb:Addr}(KX:K.In h)(G:h.Ns mainGlobals mg)(hmg:mg "answers"=some (.ref fa))(T:Tx K mg ad fdt)(tab:PySem.W.tabIn K "first_choice"=some (tc,tp))(M:Tm P w K mg eb hb)
  (r_CALLS:mg "CALLS"=some (.ref cb)) (t_CALLS:∃kvs,gO P w K cb kvs/\∀p n k,PyVbpoal.shape p=some (n,k)->∃t f,cS kvs (.inl p)=some (.ref t)/\(∀H,eB K H t [.ref f,.int (n:Int),.int (k:Int)])/\mg (F2 p)=some (.ref f)) :
  ∃fd:FuncData,(∀(s:Shared) (us:List Value),us.length=(["calls"]:List Str).length->BindsTo s fd ⟨us,[]⟩ ((["calls"]:List Str).zip us))/\
   ∀base:Heap,K.In base->base.Ns mainGlobals mg->CodeHd base tc tp->base.BuiltinsAt mg tp->aG P w K mg base bO 9 fa fd ["calls"] (xX K tp):=by
 have e:=T.f_answers.m;rw[hmg]at e;cases e;have hm:∀p n k,PyVbpoal.shape p=some (n,k)->mg (F2 p)=some (.ref (ad (F1 p))):=λp n k hs=>hZ (Pr:=λp _ _=>mg (F2 p)=some (.ref (ad (F1 p)))) T.f_begin.m T.f_set_rates.m T.f_set_money.m T.f_go_on_days.m T.f_send.m T.f_accept.m T.f_dispute.m T.f_yield_to_other.m T.f_stand_on_full.m T.f_tell_statement.m T.f_tell_debt.m T.f_tell_position.m T.f_tell_plan.m T.f_pay.m T.f_settle.m T.f_judge.m T.f_read_out.m T.f_tell_payments.m T.f_tell_groups.m T.f_tell_counts.m hs;have C:Tc P w K mg ad cb:=⟨r_CALLS,by
  obtain⟨kvs,h1,h2⟩:=t_CALLS;refine⟨kvs,h1,λp n k hs=>?_⟩;obtain⟨t,f,q1,q2,q3⟩:=h2 p n k hs;rw[hm p n k hs]at q3;cases q3;exact⟨t,q1,q2⟩⟩
 refine⟨fdt .answers,λs us hu=>?_,λbase hK hN hcd hbl=>?_⟩
 .obtain⟨oc,od,kV,doc,pm,an,cdv,ct,osl,e,_⟩:=T.f_answers.fn.ex;rw[e];exact match us,hu with|[_],_=>.of_eq rfl
 .have code:(fdt .first_choice).code = .ref tc:=by obtain⟨oc,od,kV,doc,pm,an,cdv,ct,osl,e,lk,_⟩:=T.f_first_choice.fn.ex;exact PySem.W.law_code KX G tab T.f_first_choice.m (KX _ _ lk) rfl
  exact wD T ⟨code,hcd,hbl⟩ M C
end
section
variable {P:Program}{w:World}{K:PySem.W.Frag}{h:Heap}{mg:Str->Option Value}
theorem bL {a:Addr}{xs:List V}{od:Option Addr}{its:Array Value}{n:Nat}{sl:Array (Option Value)}(l:K.lookup a=some ⟨.type "tuple",od,.seq its n,sl⟩)(hs:its.size<=100)(hv:bn xs its.toList):∀H,eB K H a xs:=λH=>.inr ⟨_,its,n,l,rfl,rfl,le_of_lt (jX (le_trans hs (by decide))),hv⟩
inductive nr (w:World):List DictEntry->List cT->Prop
 |nil:nr w [] []
 |cons {e:DictEntry} {k:cT} {es:List DictEntry} {ks:List cT}:kj k e.key=true->e.hash=E7 w k->nr w es ks->nr w (e::es) (k::ks)
theorem nr.keys {es:List DictEntry}{ks:List cT}(h:nr w es ks):∀e∈es,∃k,(bM P w).is k e.key=true/\e.hash=(bM P w).hash k:=by
 induction h with
 |nil=>intro e he;cases he
 |cons a b _ ih=>
  intro e he;rcases mem_cons.mp he with q|q
  .rw[q];exact⟨_,a,b⟩
  .exact ih e q
theorem nr.pairs {es:List DictEntry}{ks:List cT}(h:nr w es ks):∀{ts:List Addr},es.map (·.val)=ts.map Value.ref->Pairs (bM P w) es (zipWith (λk t=>(k,Value.ref t)) ks ts)/\KV (zipWith (λk t=>(k,V.ref t)) ks ts) (zipWith (λk t=>(k,Value.ref t)) ks ts)/\es.length=(zipWith (λk t=>(k,V.ref t)) ks ts).length/\(zipWith (λk t=>(k,Value.ref t)) ks ts).map (·.1)=ks:=by
 induction h with
 |nil=>
  intro ts e;cases ts with
  |nil=>exact⟨.nil,.nil,rfl,rfl⟩
  |cons _ _=>cases e
 |cons a b _ ih=>
  intro ts e;cases ts with
  |nil=>cases e
  |cons t ts=>
   rw[map_cons,map_cons]at e;injection e with e1 e2;obtain⟨p1,p2,p3,p4⟩:=ih e2;exact⟨.cons a e1 p1,.cons ⟨rfl,rfl⟩ p2,congrArg (·+1) p3,congrArg (_::·) p4⟩
theorem vm {d:Addr}{es:Array DictEntry}{ep:Nat}{ks:List cT}{ts:List Addr}(l:K.lookup d=some ⟨.type "dict",none,.dict es ep,#[]⟩)(hs:(d==sysModules)=false)(hp:nr w es.toList ks)(hv:es.toList.map (·.val)=ts.map Value.ref)(hn:ks.Nodup):gO P w K d (zipWith (λk t=>(k,V.ref t)) ks ts):=by obtain⟨p1,p2,p3,p4⟩:=hp.pairs (P:=P) hv;exact⟨_,es,ep,_,l,hs,⟨rfl,rfl,rfl⟩,rfl,p3,p2,λe he=>hp.keys (P:=P) e (Array.mem_toList_iff.mpr he),p1,by rw[p4];exact hn⟩
theorem BL {cb t0 f0 t1 f1 t2 f2 t3 f3 t4 f4 t5 f5 t6 f6 t7 f7 t8 f8 t9 f9 t10 f10 t11 f11 t12 f12 t13 f13 t14 f14 t15 f15 t16 f16 t17 f17 t18 f18 t19 f19:Addr}(md:gO P w K cb [(.inl 0,.ref t0),(.inl 1,.ref t1),(.inl 2,.ref t2),(.inl 3,.ref t3),(.inl 4,.ref t4),(.inl 5,.ref t5),(.inl 6,.ref t6),(.inl 7,.ref t7),(.inl 8,.ref t8),(.inl 9,.ref t9),(.inl 10,.ref t10),(.inl 11,.ref t11),(.inl 12,.ref t12),(.inl 13,.ref t13),(.inl 14,.ref t14),(.inl 15,.ref t15),(.inl 16,.ref t16),(.inl 17,.ref t17),(.inl 18,.ref t18),(.inl 19,.ref t19)])
  (q0:∀H,eB K H t0 [.ref f0,.int 1,.int 0]) (m0:mg "begin"=some (.ref f0))
  (q1:∀H,eB K H t1 [.ref f1,.int 4,.int 0]) (m1:mg "set_rates"=some (.ref f1))
  (q2:∀H,eB K H t2 [.ref f2,.int 2,.int 0]) (m2:mg "set_money"=some (.ref f2))
  (q3:∀H,eB K H t3 [.ref f3,.int 1,.int 0]) (m3:mg "go_on_days"=some (.ref f3))
  (q4:∀H,eB K H t4 [.ref f4,.int 0,.int 1]) (m4:mg "send"=some (.ref f4))
  (q5:∀H,eB K H t5 [.ref f5,.int 1,.int 0]) (m5:mg "accept"=some (.ref f5))
  (q6:∀H,eB K H t6 [.ref f6,.int 2,.int 0]) (m6:mg "dispute"=some (.ref f6))
  (q7:∀H,eB K H t7 [.ref f7,.int 1,.int 0]) (m7:mg "yield_to_other"=some (.ref f7))
  (q8:∀H,eB K H t8 [.ref f8,.int 1,.int 0]) (m8:mg "stand_on_full"=some (.ref f8))
  (q9:∀H,eB K H t9 [.ref f9,.int 1,.int 0]) (m9:mg "tell_statement"=some (.ref f9))
  (q10:∀H,eB K H t10 [.ref f10,.int 2,.int 0]) (m10:mg "tell_debt"=some (.ref f10))
  (q11:∀H,eB K H t11 [.ref f11,.int 1,.int 0]) (m11:mg "tell_position"=some (.ref f11))
  (q12:∀H,eB K H t12 [.ref f12,.int 0,.int 0]) (m12:mg "tell_plan"=some (.ref f12))
  (q13:∀H,eB K H t13 [.ref f13,.int 3,.int 0]) (m13:mg "pay"=some (.ref f13))
  (q14:∀H,eB K H t14 [.ref f14,.int 0,.int 0]) (m14:mg "settle"=some (.ref f14))
  (q15:∀H,eB K H t15 [.ref f15,.int 0,.int 1]) (m15:mg "judge"=some (.ref f15))
  (q16:∀H,eB K H t16 [.ref f16,.int 0,.int 1]) (m16:mg "read_out"=some (.ref f16))
  (q17:∀H,eB K H t17 [.ref f17,.int 1,.int 0]) (m17:mg "tell_payments"=some (.ref f17))
  (q18:∀H,eB K H t18 [.ref f18,.int 0,.int 0]) (m18:mg "tell_groups"=some (.ref f18))
  (q19:∀H,eB K H t19 [.ref f19,.int 0,.int 0]) (m19:mg "tell_counts"=some (.ref f19))
  : ∃kvs,gO P w K cb kvs/\∀p n k,PyVbpoal.shape p=some (n,k)->∃t f,cS kvs (.inl p)=some (.ref t)/\(∀H,eB K H t [.ref f,.int (n:Int),.int (k:Int)])/\mg (F2 p)=some (.ref f):=
 ⟨_,md,λp n k hs=>hZ (Pr:=λp n k=>∃t f,cS ([(.inl 0,.ref t0),(.inl 1,.ref t1),(.inl 2,.ref t2),(.inl 3,.ref t3),(.inl 4,.ref t4),(.inl 5,.ref t5),(.inl 6,.ref t6),(.inl 7,.ref t7),(.inl 8,.ref t8),(.inl 9,.ref t9),(.inl 10,.ref t10),(.inl 11,.ref t11),(.inl 12,.ref t12),(.inl 13,.ref t13),(.inl 14,.ref t14),(.inl 15,.ref t15),(.inl 16,.ref t16),(.inl 17,.ref t17),(.inl 18,.ref t18),(.inl 19,.ref t19)]:List (cT×V)) (.inl p)=some (.ref t)/\(∀H,eB K H t [.ref f,.int (n:Int),.int (k:Int)])/\mg (F2 p)=some (.ref f)) ⟨t0,f0,rfl,q0,m0⟩ ⟨t1,f1,rfl,q1,m1⟩ ⟨t2,f2,rfl,q2,m2⟩ ⟨t3,f3,rfl,q3,m3⟩ ⟨t4,f4,rfl,q4,m4⟩ ⟨t5,f5,rfl,q5,m5⟩ ⟨t6,f6,rfl,q6,m6⟩ ⟨t7,f7,rfl,q7,m7⟩ ⟨t8,f8,rfl,q8,m8⟩ ⟨t9,f9,rfl,q9,m9⟩ ⟨t10,f10,rfl,q10,m10⟩ ⟨t11,f11,rfl,q11,m11⟩ ⟨t12,f12,rfl,q12,m12⟩ ⟨t13,f13,rfl,q13,m13⟩ ⟨t14,f14,rfl,q14,m14⟩ ⟨t15,f15,rfl,q15,m15⟩ ⟨t16,f16,rfl,q16,m16⟩ ⟨t17,f17,rfl,q17,m17⟩ ⟨t18,f18,rfl,q18,m18⟩ ⟨t19,f19,rfl,q19,m19⟩ hs⟩
def Hq (tp:Addr):PySem.W.Frag->Sp:=λK=>xX K tp
theorem vn {l:List Int}(h:PyVbpoal.answers_asked l=true):(PyVbpoal.answers l).length<=10000000:=by
 unfold PyVbpoal.answers_asked at h;cases e:PyFlat.calls PyVbpoal.shape l.length l with
 |none=>rw[e]at h;cases h
 |some raw=>
  rw[e]at h;have h1:(!raw.isEmpty&&PyFlat.atMost 400 raw&&PyInside.calls PyVbpoal.bound raw&&asked (raw.map PyVbpoal.whole)&&PyFlat.short 10000000 (PyVbpoal.answers l))=true:=h;simp only[and_eq_true]at h1;exact decide_eq_true_eq.mp h1.2
theorem Dh {H:Hp}{tp ca:Addr}{ns:List Int}(hn:H tp=none)(hs:aR K H ca (ns.map V.int))(hl:ns.length<=16000)(ha:PyVbpoal.answers_asked ns=true){Q:VK}{E:XK}(hQ:∀(H':Hp) (la:Addr),LI H' la (PyVbpoal.answers ns)->Q (.ref la) H'):xX K tp [.ref ca] (upd H tp (.tbl #[])) Q E:=by obtain⟨cs,hc⟩:=AX ha;exact⟨ca,ns,cs,rfl,aR.keep hs λo e=>by rw[ah (aj e hn)];exact e,.inl ac,hc,hl,vn ha,hQ⟩
end
end Pc
namespace PySem.W.Fast
def tw15581101968896729204:=0
def tw6650311934086435359:=0
def tw11153285880278462538:=0
def tw6370940967802337324:=0
def tw3470985387264836893:=0
def tw7140314931313435735:=0
def tw6411696290567136489:=0
def tw7478327248946180557:=0
def tw2492635995125137825:=0
def tw5316604867769004983:=0
def tw1378838928731561548:=0
def tw12483948808148571365:=0
def tw8857218548651826617:=0
def tw1500264198881151975:=0
def tw6993476457682802498:=0
def tw3825359738424866183:=0
def tw7898496378332975518:=0
def tw16277980293262541543:=0
def tw10128175386952485004:=0
def tw12790844179531785783:=0
def tw10293726493271009644:=0
def tw10855657069528151302:=0
def tw9501989803618666051:=0
def tw4221699698867942701:=0
def tw14046372599797387571:=0
def tw4659398123497817312:=0
def tw9559661234893480526:=0
def tw1368478255687486842:=0
def tw1804213914228099529:=0
def tw1258196004514821699:=0
def tw15909056559349174320:=0
def tw5462805688656323393:=0
def tw14754172941974912351:=0
def tw2262936462619084114:=0
def tw14469217799175146734:=0
def tw8651097041870936526:=0
def tw6556732151123265767:=0
def tw10841393067775945585:=0
def tw6903173941916893864:=0
def tw15640956245328475896:=0
def tw16378374429558663789:=0
def tw11520592378632677189:=0
def tw4824292871930585422:=0
def tw11999298257295359304:=0
def tw17376672710300888100:=0
def tw10578248154584893509:=0
def tw13318856474631621820:=0
def tw8064410752579101447:=0
def tw9858054834381763386:=0
def tw8914465870359300895:=0
def tw2800787894757671301:=0
def tw3290815530965211947:=0
def tw989399598511967246:=0
def tw12396991153980489333:=0
def tw17201457592732693375:=0
def tw17970620076978671740:=0
def tw17165846060207409081:=0
def tw12176406961646962342:=0
def tw4374913878007887502:=0
def tw10266471163769045028:=0
def tw12319366320324559063:=0
def tw14652239892641084923:=0
def tw5550256247180913848:=0
def tw4845361178915161343:=0
def tw12907693304983994702:=0
def tw1868201816683212300:=0
def tw13956521456316327201:=0
def tw6345221796214542633:=0
def tw12753948914469628376:=0
def tw8086339223233916774:=0
def tw1318288399783526397:=0
def tw13783965647508614379:=0
def tw16191169001825105162:=0
def tw4269586849768758557:=0
def tw5667504251313496050:=0
def tw4014731015606724624:=0
def tw15589260497129711692:=0
def tw6035894498485816566:=0
def tw1913775712146648235:=0
def tw9448225363033503913:=0
def tw6287201118721797392:=0
def tw11310620023355315790:=0
def tw7007960555304153510:=0
def tw4606128401226316203:=0
def tw9143109546811011537:=0
def tw11883091452685340357:=0
def tw3255012186530083759:=0
def tw1655165104336714999:=0
def tw17168088647758228148:=0
def tw15722718245232758841:=0
def tw12527579318716129495:=0
def tw4646164575893959472:=0
def tw8732882880994473011:=0
def tw16869414192718495995:=0
def tw4219295214110661551:=0
def tw14890063540524962510:=0
def tw6018753033095618096:=0
def tw13543972346666105787:=0
def tw1989343270024600716:=0
def tw3613812062853129525:=0
def tw1839006674203846434:=0
def tw14133346225821362492:=0
def tw3817809529821611336:=0
def tw17982702489883759353:=0
def tw7200707663071408499:=0
def tw5421704865418963332:=0
def tw14924303473745093999:=0
def tw712062045170612962:=0
def tw9549053930339199142:=0
def tw1092318601823182811:=0
def tw6420901778498430177:=0
def tw9147920859890567128:=0
def tw6742792810088506448:=0
def tw9117436539587911066:=0
def tw8003010238880146893:=0
def tw7212391487534308566:=0
def tw14250678317807265258:=0
def tw3479458601435720815:=0
def tw7216627125743324646:=0
def tw2548040221269685326:=0
def tw8714351569166024229:=0
def tw6091576370135530079:=0
def tw12589920460980234477:=0
def tw11707339957041397744:=0
def tw2525587095878764619:=0
def tw14776003817876582022:=0
def tw17395985324118615260:=0
def tw6727718039785217916:=0
def tw17939307830702533819:=0
def tw13419980130799612850:=0
def tw15135518313575238160:=0
def tw7257366450136018143:=0
def tw14936208456923854884:=0
def tw15125792388852411113:=0
def tw6949356618235985210:=0
def tw1650270148818347330:=0
def tw13483121571300299941:=0
def tw5486370437554300179:=0
def tw3661917921219345574:=0
def tw5542075871689553048:=0
def tw2986484999881324618:=0
def tw14463992190670707815:=0
def tw6091658348917050570:=0
def tw13495180947505962295:=0
def tw16334525811022405588:=0
def tw13257410756586318542:=0
def tw7380191727274275742:=0
def tw8460567207256260196:=0
def tw5564501964334531704:=0
def tw3697926903742387038:=0
def tw8911273639674457456:=0
def tw3486772217796988963:=0
def tw13613102104877341043:=0
def tw326770241479691799:=0
def tw11262555150807975189:=0
def tw18400564737636730858:=0
def tw459740476956464388:=0
def tw17555693722960718804:=0
def tw18219092333396418525:=0
def tw15074329486985602612:=0
def tw11771748594813130572:=0
def tw7750489910334207383:=0
def tw8451643927019418288:=0
def tw6351727213574114843:=0
def tw2483080760958363443:=0
def tw10859881381528918716:=0
def tw15784538846009231396:=0
def tw13257543851340101438:=0
def tw1674342619398074821:=0
def tw17059378635597093537:=0
def tw1109882835954322546:=0
def tw16435376777812989751:=0
def tw14071228710857959358:=0
def tw5785326779738305361:=0
def tw2815031991387786443:=0
def tw3635168402446259871:=0
def tw7498268781776312894:=0
def tw8863328419298092467:=0
def tw467253369425055710:=0
def tw1021196739583972522:=0
def tw2091767060287252055:=0
def tw7856927322578263783:=0
def tw4543079384921223433:=0
def tw7242375226581359075:=0
def tw8353992376034619798:=0
def tw12157979054480755327:=0
def tw367578117047699322:=0
def tw13880324834633448879:=0
def tw5945220048311845687:=0
def tw14115497492405361746:=0
def tw7440363783063005004:=0
def tw8052096600649708191:=0
def tw16482659902660692824:=0
def tw12990196976029431651:=0
def tw3629854045099842422:=0
def tw16791647808581321854:=0
def tw15382149706073210288:=0
def tw7792404211492494643:=0
def tw16913300065053754721:=0
def tw16657197115072262398:=0
def tw566627189581116670:=0
def tw4548824851546279685:=0
def tw15618523055355368696:=0
def tw813290564729564962:=0
def tw6181520999927030933:=0
def tw1728205905512069428:=0
def tw8374877586005483990:=0
def tw13602931466778604706:=0
def tw16587068896030731909:=0
def tw3010016610035261452:=0
def tw4458692230368974442:=0
def tw14129374267193653917:=0
def tw1692907985051846210:=0
def tw6217790028158877919:=0
def tw4852849041029876529:=0
def tw5721122523987843864:=0
def tw6955355488012280030:=0
def tw2907049650831098591:=0
def tw11938019419671746059:=0
def tw5507109706673384627:=0
def tw11648371154647012038:=0
def tw17380337664669870762:=0
def tw4184984947316181914:=0
def tw13023409595994207187:=0
def tw13302938420747813427:=0
def tw17486932314689738875:=0
def tw4078025935509735636:=0
def tw8152259422234431026:=0
def tw1625518746126614570:=0
def tw8379313715402272594:=0
def tw3707312553153729349:=0
def tw12825799507025721301:=0
def tw11381567922418108460:=0
def tw17462079193925566917:=0
def tw199732794883177342:=0
def tw15614934408230545933:=0
def tw5308240041796529836:=0
def tw757119799042746156:=0
def tw9982293835328626778:=0
def tw4057365257116569792:=0
def tw9201306234399210184:=0
def tw10383065038670653686:=0
def tw3227201873863615588:=0
def tw5122810690429567158:=0
def tw17727568370323409968:=0
def tw16888127706741721349:=0
def tw5571629053862325039:=0
def tw2764253895286273623:=0
def tw11682455616551951497:=0
def tw5896923679008655580:=0
def tw5812293841607368101:=0
def tw3343993185469822587:=0
def tw12919711596453503297:=0
def tw5016457833941204028:=0
def tw3273576180771265102:=0
def tw5942916519317222453:=0
def tw5211933095560779655:=0
def tw15533026012171700163:=0
end PySem.W.Fast
theorem F3 {R:List PySem.Value->Prop}(h:R [])(us:List PySem.Value)(e:us.length=0):R us:=by
 cases us with
 |nil=>exact h
 |cons a t=>cases e
theorem wG {n:Nat}{R:List PySem.Value->Prop}(h:∀a t,t.length=n->R (a::t))(us:List PySem.Value)(e:us.length=n+1):R us:=by
 cases us with
 |nil=>cases e
 |cons a t=>exact h a t (Nat.succ.inj e)
set_option hygiene false
local macro_rules | `(tactic| walk_at "k") => `(tactic| (rewrite [hK]; k_is))
local macro_rules | `(tactic| walk_at "b") => `(tactic| first | exact fun _ _ _ _ _ _ => wG fun _ => F3 rfl | exact fun _ _ _ _ _ _ => wG fun _ => wG fun _ => F3 rfl | exact fun _ _ _ _ _ _ => wG fun _ => wG fun _ => wG fun _ => F3 rfl | exact fun _ _ _ _ _ _ => wG fun _ => wG fun _ => wG fun _ => wG fun _ => F3 rfl | exact fun _ _ _ _ _ _ => wG fun _ => wG fun _ => wG fun _ => wG fun _ => wG fun _ => F3 rfl)
open PySem.W PyProof.Rows L2 Pc
set_option maxRecDepth 100000 in
set_option maxHeartbeats 0 in
theorem PySem.Challenge.cw_postclear_s01_answers_holds : PySem.Challenge.rw_postclear_s01_answers.Holds := by
 w_on;k_headS;(case hw=>exact⟨[.list [.int 3,.int 0]],by decide +kernel,by decide +kernel⟩)
 k_fillS;refine' L2.wF (r:=PySem.Challenge.rw_postclear_s01_answers) (k:=9) (CX:=L2.bO) (ps:=["calls"]) (tc:=?tc) (tp:=?tp) (xt := "first_choice") (sp:=Pc.Hq ?tp) (by decide +kernel) rfl rfl ⟨rfl,by decide,by decide⟩ (λw h Y=>PySem.W.kIn_of Y) ?rec ?tab0 ?kp ?F ?S (λ_ _ _ _ z=>z)
 case tab0=>intro p;refine' Pc.BK ?a ?l ?e ?l2 ?e2;(case a=>k_is);(case l=>k_is);(case e=>rfl);(case l2=>k_is);(case e2=>rfl)
 case rec=>decide +kernel
 case kp=>intro p;rfl
 case F=>
  intro w mg fa h K hK Y KX G hmg;refine' pQ .Rates .Rates___init__ (x := "Rates") (q := "Rates.__init__") (st:=dU) (ps:=["self","kilogram","piece","mile"]) KX G ?_ ?_ ?_ ?_ ?_ ?_ ?_ ?_ ?_ ?_ ?_ ?_ (by walk_at"b") (λq_Rates=>?_)<;>first|(rewrite [hK];k_is)|skip
  refine' pQ .Statement .Statement___init__ (x := "Statement") (q := "Statement.__init__") (st:=cN) (ps:=["self","sender","receiver","day","full"]) KX G ?_ ?_ ?_ ?_ ?_ ?_ ?_ ?_ ?_ ?_ ?_ ?_ (by walk_at"b") (λq_Statement=>?_)<;>first|(rewrite [hK];k_is)|skip
  refine' pQ .Payment .Payment___init__ (x := "Payment") (q := "Payment.__init__") (st:=ee) (ps:=["self","payer","payee","amount"]) KX G ?_ ?_ ?_ ?_ ?_ ?_ ?_ ?_ ?_ ?_ ?_ ?_ (by walk_at"b") (λq_Payment=>?_)<;>first|(rewrite [hK];k_is)|skip
  refine' pQ .Book .Book___init__ (x := "Book") (q := "Book.__init__") (st:=fL) (ps:=["self"]) KX G ?_ ?_ ?_ ?_ ?_ ?_ ?_ ?_ ?_ ?_ ?_ ?_ (by walk_at"b") (λq_Book=>?_)<;>first|(rewrite [hK];k_is)|skip
  refine' pQ .CallList .CallList___init__ (x := "CallList") (q := "CallList.__init__") (st:=cV) (ps:=["self","calls"]) KX G ?_ ?_ ?_ ?_ ?_ ?_ ?_ ?_ ?_ ?_ ?_ ?_ (by walk_at"b") (λq_CallList=>?_)<;>first|(rewrite [hK];k_is)|skip
  refine' pQ .Entry .Entry___init__ (x := "Entry") (q := "Entry.__init__") (st:=c7) (ps:=["self","name","numbers"]) KX G ?_ ?_ ?_ ?_ ?_ ?_ ?_ ?_ ?_ ?_ ?_ ?_ (by walk_at"b") (λq_Entry=>?_)<;>first|(rewrite [hK];k_is)|skip
  refine' pQ .Reading .Reading___init__ (x := "Reading") (q := "Reading.__init__") (st:=cA) (ps:=["self"]) KX G ?_ ?_ ?_ ?_ ?_ ?_ ?_ ?_ ?_ ?_ ?_ ?_ (by walk_at"b") (λq_Reading=>?_)<;>first|(rewrite [hK];k_is)|skip
  refine' Dg (ad:=rA _) (fdt:=BN _) KX G hmg ⟨q_Rates.k,q_Rates.c,q_Rates.i,q_Rates.b,di (y := "Rates") ?_ ?_,di (y := "Rates") ?_ ?_,di (y := "Rates") ?_ ?_,q_Statement.k,q_Statement.c,q_Statement.i,q_Statement.b,di (y := "Statement") ?_ ?_,di (y := "Statement") ?_ ?_,di (y := "Statement") ?_ ?_,di (y := "Statement") ?_ ?_,di (y := "Statement") ?_ ?_,di (y := "Statement") ?_ ?_,di (y := "Statement") ?_ ?_,q_Payment.k,q_Payment.c,q_Payment.i,q_Payment.b,di (y := "Payment") ?_ ?_,di (y := "Payment") ?_ ?_,di (y := "Payment") ?_ ?_,q_Book.k,q_Book.c,q_Book.i,q_Book.b,di (y := "Book") ?_ ?_,di (y := "Book") ?_ ?_,di (y := "Book") ?_ ?_,di (y := "Book") ?_ ?_,di (y := "Book") ?_ ?_,di (y := "Book") ?_ ?_,q_CallList.k,q_CallList.c,q_CallList.i,q_CallList.b,di (y := "CallList") ?_ ?_,di (y := "CallList") ?_ ?_,q_Entry.k,q_Entry.c,q_Entry.i,q_Entry.b,di (y := "Entry") ?_ ?_,di (y := "Entry") ?_ ?_,q_Reading.k,q_Reading.c,q_Reading.i,q_Reading.b,di (y := "Reading") ?_ ?_,di (y := "Reading") ?_ ?_,di (y := "Reading") ?_ ?_,di (y := "Reading") ?_ ?_,dh (y := "Statement") ?_ ?_ ?_ ?_ ?_ ?_ (by walk_at"b"),dh (y := "Statement") ?_ ?_ ?_ ?_ ?_ ?_ (by walk_at"b"),dh (y := "Statement") ?_ ?_ ?_ ?_ ?_ ?_ (by walk_at"b"),dh (y := "Statement") ?_ ?_ ?_ ?_ ?_ ?_ (by walk_at"b"),aU KX G ?_ ?_ ?_ ?_ (by walk_at"b"),dh (y := "Book") ?_ ?_ ?_ ?_ ?_ ?_ (by walk_at"b"),dh (y := "Book") ?_ ?_ ?_ ?_ ?_ ?_ (by walk_at"b"),dh (y := "Book") ?_ ?_ ?_ ?_ ?_ ?_ (by walk_at"b"),dh (y := "Book") ?_ ?_ ?_ ?_ ?_ ?_ (by walk_at"b"),dh (y := "Book") ?_ ?_ ?_ ?_ ?_ ?_ (by walk_at"b"),dh (y := "Book") ?_ ?_ ?_ ?_ ?_ ?_ (by walk_at"b"),dh (y := "Book") ?_ ?_ ?_ ?_ ?_ ?_ (by walk_at"b"),dh (y := "Book") ?_ ?_ ?_ ?_ ?_ ?_ (by walk_at"b"),dh (y := "Book") ?_ ?_ ?_ ?_ ?_ ?_ (by walk_at"b"),dh (y := "Book") ?_ ?_ ?_ ?_ ?_ ?_ (by walk_at"b"),dh (y := "Book") ?_ ?_ ?_ ?_ ?_ ?_ (by walk_at"b"),dh (y := "Book") ?_ ?_ ?_ ?_ ?_ ?_ (by walk_at"b"),dh (y := "CallList") ?_ ?_ ?_ ?_ ?_ ?_ (by walk_at"b"),dh (y := "CallList") ?_ ?_ ?_ ?_ ?_ ?_ (by walk_at"b"),dh (y := "CallList") ?_ ?_ ?_ ?_ ?_ ?_ (by walk_at"b"),dh (y := "CallList") ?_ ?_ ?_ ?_ ?_ ?_ (by walk_at"b"),aU KX G ?_ ?_ ?_ ?_ (by walk_at"b"),aU KX G ?_ ?_ ?_ ?_ (by walk_at"b"),aU KX G ?_ ?_ ?_ ?_ (by walk_at"b"),aU KX G ?_ ?_ ?_ ?_ (by walk_at"b"),aU KX G ?_ ?_ ?_ ?_ (by walk_at"b"),aU KX G ?_ ?_ ?_ ?_ (by walk_at"b"),aU KX G ?_ ?_ ?_ ?_ (by walk_at"b"),aU KX G ?_ ?_ ?_ ?_ (by walk_at"b"),aU KX G ?_ ?_ ?_ ?_ (by walk_at"b"),aU KX G ?_ ?_ ?_ ?_ (by walk_at"b"),aU KX G ?_ ?_ ?_ ?_ (by walk_at"b"),aU KX G ?_ ?_ ?_ ?_ (by walk_at"b"),aU KX G ?_ ?_ ?_ ?_ (by walk_at"b"),aU KX G ?_ ?_ ?_ ?_ (by walk_at"b"),aU KX G ?_ ?_ ?_ ?_ (by walk_at"b"),aU KX G ?_ ?_ ?_ ?_ (by walk_at"b"),aU KX G ?_ ?_ ?_ ?_ (by walk_at"b"),aU KX G ?_ ?_ ?_ ?_ (by walk_at"b"),aU KX G ?_ ?_ ?_ ?_ (by walk_at"b"),aU KX G ?_ ?_ ?_ ?_ (by walk_at"b"),aU KX G ?_ ?_ ?_ ?_ (by walk_at"b"),aU KX G ?_ ?_ ?_ ?_ (by walk_at"b"),aU KX G ?_ ?_ ?_ ?_ (by walk_at"b"),aU KX G ?_ ?_ ?_ ?_ (by walk_at"b"),aU KX G ?_ ?_ ?_ ?_ (by walk_at"b"),aU KX G ?_ ?_ ?_ ?_ (by walk_at"b"),aU KX G ?_ ?_ ?_ ?_ (by walk_at"b"),aU KX G ?_ ?_ ?_ ?_ (by walk_at"b"),aU KX G ?_ ?_ ?_ ?_ (by walk_at"b"),aU KX G ?_ ?_ ?_ ?_ (by walk_at"b"),aU KX G ?_ ?_ ?_ ?_ (by walk_at"b"),aU KX G ?_ ?_ ?_ ?_ (by walk_at"b"),aU KX G ?_ ?_ ?_ ?_ (by walk_at"b"),aU KX G ?_ ?_ ?_ ?_ (by walk_at"b"),aU KX G ?_ ?_ ?_ ?_ (by walk_at"b"),aU KX G ?_ ?_ ?_ ?_ (by walk_at"b"),aU KX G ?_ ?_ ?_ ?_ (by walk_at"b"),aU KX G ?_ ?_ ?_ ?_ (by walk_at"b"),aU KX G ?_ ?_ ?_ ?_ (by walk_at"b"),aU KX G ?_ ?_ ?_ ?_ (by walk_at"b"),aU KX G ?_ ?_ ?_ ?_ (by walk_at"b"),aU KX G ?_ ?_ ?_ ?_ (by walk_at"b"),aU KX G ?_ ?_ ?_ ?_ (by walk_at"b"),aU KX G ?_ ?_ ?_ ?_ (by walk_at"b"),aU KX G ?_ ?_ ?_ ?_ (by walk_at"b"),aU KX G ?_ ?_ ?_ ?_ (by walk_at"b"),aU KX G ?_ ?_ ?_ ?_ (by walk_at"b"),aU KX G ?_ ?_ ?_ ?_ (by walk_at"b"),aU KX G ?_ ?_ ?_ ?_ (by walk_at"b"),aU KX G ?_ ?_ ?_ ?_ (by walk_at"b"),aU KX G ?_ ?_ ?_ ?_ (by walk_at"b"),aU KX G ?_ ?_ ?_ ?_ (by walk_at"b"),aU KX G ?_ ?_ ?_ ?_ (by walk_at"b"),aU KX G ?_ ?_ ?_ ?_ (by walk_at"b"),aU KX G ?_ ?_ ?_ ?_ (by walk_at"b"),bU KX G ?_,bU KX G ?_,bU KX G ?_,bU KX G ?_,bU KX G ?_,bU KX G ?_,bU KX G ?_,bU KX G ?_,bU KX G ?_,bU KX G ?_,bU KX G ?_,bU KX G ?_,bU KX G ?_,bU KX G ?_,bU KX G ?_,bU KX G ?_,bU KX G ?_,bU KX G ?_,bU KX G ?_,bU KX G ?_,bU KX G ?_,bU KX G ?_,bU KX G ?_,bU KX G ?_,bU KX G ?_,bU KX G ?_,bU KX G ?_,bU KX G ?_,bU KX G ?_,bU KX G ?_,bU KX G ?_,bU KX G ?_,bU KX G ?_,bU KX G ?_,bU KX G ?_,bU KX G ?_,bU KX G ?_,bU KX G ?_,bU KX G ?_,mg_none_of KX G ?_,mg_none_of KX G ?_,mg_none_of KX G ?_,mg_none_of KX G ?_,mg_none_of KX G ?_,mg_none_of KX G ?_,mg_none_of KX G ?_,mg_none_of KX G ?_,mg_none_of KX G ?_,mg_none_of KX G ?_,mg_none_of KX G ?_,mg_none_of KX G ?_⟩ ?tab ?mTm ?rC ?tC
  case tab=>refine' BK ?a ?l ?e ?l2 ?e2;(case a=>walk_at"k");(case l=>walk_at"k");(case e=>rfl);(case l2=>walk_at"k");(case e2=>rfl)
  case mTm=>
   refine'⟨mg_of KX G ?a1,?b1,mg_of KX G ?a2,?b2⟩
   (case a1=>walk_at"k")
   (case a2=>walk_at"k")
   case b1=>
    refine'⟨[_],?o,.cons ?p0 (.nil)⟩
    (case o=>refine' bL ?l ?s ?v;(case l=>walk_at"k");(case s=>exact lb rfl);(case v=>exact .cons rfl (.nil)))
    (case p0=>refine' bL ?l ?s ?v;(case l=>walk_at"k");(case s=>exact lb rfl);(case v=>exact .cons ⟨_,rfl⟩ (.cons ⟨_,rfl⟩ (.nil))))
   case b2=>
    refine'⟨_,_,_,?md,?d1,?d2,?d3⟩
    (case md=>refine' vm (ks:=[.inr "DUES",.inr "TRANSIT",.inr "ORDERS"]) (ts:=[_,_,_]) ?l ?hs ?hp ?hv ?hn;(case l=>walk_at"k");(case hs=>rfl);(case hp=>exact .cons (jU _ _) rfl (.cons (jU _ _) rfl (.cons (jU _ _) rfl .nil)));(case hv=>exact rfl);(case hn=>decide +kernel))
    case d1=>
     refine'⟨[_,_,_],?o,.cons ?p0 (.cons ?p1 (.cons ?p2 (.nil)))⟩
     (case o=>refine' bL ?l ?s ?v;(case l=>walk_at"k");(case s=>exact lb rfl);(case v=>exact .cons rfl (.cons rfl (.cons rfl (.nil)))))
     (case p0=>refine' bL ?l ?s ?v;(case l=>walk_at"k");(case s=>exact lb rfl);(case v=>exact .cons ⟨_,rfl⟩ (.cons ⟨_,rfl⟩ (.nil))))
     (case p1=>refine' bL ?l ?s ?v;(case l=>walk_at"k");(case s=>exact lb rfl);(case v=>exact .cons ⟨_,rfl⟩ (.cons ⟨_,rfl⟩ (.nil))))
     (case p2=>refine' bL ?l ?s ?v;(case l=>walk_at"k");(case s=>exact lb rfl);(case v=>exact .cons ⟨_,rfl⟩ (.cons ⟨_,rfl⟩ (.nil))))
    case d2=>
     refine'⟨[_,_],?o,.cons ?p0 (.cons ?p1 (.nil))⟩
     (case o=>refine' bL ?l ?s ?v;(case l=>walk_at"k");(case s=>exact lb rfl);(case v=>exact .cons rfl (.cons rfl (.nil))))
     (case p0=>refine' bL ?l ?s ?v;(case l=>walk_at"k");(case s=>exact lb rfl);(case v=>exact .cons ⟨_,rfl⟩ (.cons ⟨_,rfl⟩ (.nil))))
     (case p1=>refine' bL ?l ?s ?v;(case l=>walk_at"k");(case s=>exact lb rfl);(case v=>exact .cons ⟨_,rfl⟩ (.cons ⟨_,rfl⟩ (.nil))))
    case d3=>
     refine'⟨[_,_],?o,.cons ?p0 (.cons ?p1 (.nil))⟩
     (case o=>refine' bL ?l ?s ?v;(case l=>walk_at"k");(case s=>exact lb rfl);(case v=>exact .cons rfl (.cons rfl (.nil))))
     (case p0=>refine' bL ?l ?s ?v;(case l=>walk_at"k");(case s=>exact lb rfl);(case v=>exact .cons ⟨_,rfl⟩ (.cons ⟨_,rfl⟩ (.nil))))
     (case p1=>refine' bL ?l ?s ?v;(case l=>walk_at"k");(case s=>exact lb rfl);(case v=>exact .cons ⟨_,rfl⟩ (.cons ⟨_,rfl⟩ (.nil))))
  case rC=>refine' mg_of KX G ?a;(case a=>walk_at"k")
  case tC=>
   refine' BL ?md ?q0 (mg_of KX G ?m0) ?q1 (mg_of KX G ?m1) ?q2 (mg_of KX G ?m2) ?q3 (mg_of KX G ?m3) ?q4 (mg_of KX G ?m4) ?q5 (mg_of KX G ?m5) ?q6 (mg_of KX G ?m6) ?q7 (mg_of KX G ?m7) ?q8 (mg_of KX G ?m8) ?q9 (mg_of KX G ?m9) ?q10 (mg_of KX G ?m10) ?q11 (mg_of KX G ?m11) ?q12 (mg_of KX G ?m12) ?q13 (mg_of KX G ?m13) ?q14 (mg_of KX G ?m14) ?q15 (mg_of KX G ?m15) ?q16 (mg_of KX G ?m16) ?q17 (mg_of KX G ?m17) ?q18 (mg_of KX G ?m18) ?q19 (mg_of KX G ?m19)
   (case m0=>walk_at"k");(case m1=>walk_at"k");(case m2=>walk_at"k");(case m3=>walk_at"k");(case m4=>walk_at"k");(case m5=>walk_at"k");(case m6=>walk_at"k");(case m7=>walk_at"k");(case m8=>walk_at"k");(case m9=>walk_at"k");(case m10=>walk_at"k");(case m11=>walk_at"k");(case m12=>walk_at"k");(case m13=>walk_at"k");(case m14=>walk_at"k");(case m15=>walk_at"k");(case m16=>walk_at"k");(case m17=>walk_at"k");(case m18=>walk_at"k");(case m19=>walk_at"k")
   (case md=>refine' vm (ks:=[.inl 0,.inl 1,.inl 2,.inl 3,.inl 4,.inl 5,.inl 6,.inl 7,.inl 8,.inl 9,.inl 10,.inl 11,.inl 12,.inl 13,.inl 14,.inl 15,.inl 16,.inl 17,.inl 18,.inl 19]) (ts:=[_,_,_,_,_,_,_,_,_,_,_,_,_,_,_,_,_,_,_,_]) ?l ?hs ?hp ?hv ?hn;(case l=>walk_at"k");(case hs=>rfl);(case hp=>exact .cons (bt _ _) rfl (.cons (bt _ _) rfl (.cons (bt _ _) rfl (.cons (bt _ _) rfl (.cons (bt _ _) rfl (.cons (bt _ _) rfl (.cons (bt _ _) rfl (.cons (bt _ _) rfl (.cons (bt _ _) rfl (.cons (bt _ _) rfl (.cons (bt _ _) rfl (.cons (bt _ _) rfl (.cons (bt _ _) rfl (.cons (bt _ _) rfl (.cons (bt _ _) rfl (.cons (bt _ _) rfl (.cons (bt _ _) rfl (.cons (bt _ _) rfl (.cons (bt _ _) rfl (.cons (bt _ _) rfl .nil))))))))))))))))))));(case hv=>exact rfl);(case hn=>decide +kernel))
   (case q0=>refine' bL ?l ?s ?v;(case l=>walk_at"k");(case s=>exact lb rfl);(case v=>exact .cons rfl (.cons ⟨_,rfl⟩ (.cons ⟨_,rfl⟩ (.nil)))))
   (case q1=>refine' bL ?l ?s ?v;(case l=>walk_at"k");(case s=>exact lb rfl);(case v=>exact .cons rfl (.cons ⟨_,rfl⟩ (.cons ⟨_,rfl⟩ (.nil)))))
   (case q2=>refine' bL ?l ?s ?v;(case l=>walk_at"k");(case s=>exact lb rfl);(case v=>exact .cons rfl (.cons ⟨_,rfl⟩ (.cons ⟨_,rfl⟩ (.nil)))))
   (case q3=>refine' bL ?l ?s ?v;(case l=>walk_at"k");(case s=>exact lb rfl);(case v=>exact .cons rfl (.cons ⟨_,rfl⟩ (.cons ⟨_,rfl⟩ (.nil)))))
   (case q4=>refine' bL ?l ?s ?v;(case l=>walk_at"k");(case s=>exact lb rfl);(case v=>exact .cons rfl (.cons ⟨_,rfl⟩ (.cons ⟨_,rfl⟩ (.nil)))))
   (case q5=>refine' bL ?l ?s ?v;(case l=>walk_at"k");(case s=>exact lb rfl);(case v=>exact .cons rfl (.cons ⟨_,rfl⟩ (.cons ⟨_,rfl⟩ (.nil)))))
   (case q6=>refine' bL ?l ?s ?v;(case l=>walk_at"k");(case s=>exact lb rfl);(case v=>exact .cons rfl (.cons ⟨_,rfl⟩ (.cons ⟨_,rfl⟩ (.nil)))))
   (case q7=>refine' bL ?l ?s ?v;(case l=>walk_at"k");(case s=>exact lb rfl);(case v=>exact .cons rfl (.cons ⟨_,rfl⟩ (.cons ⟨_,rfl⟩ (.nil)))))
   (case q8=>refine' bL ?l ?s ?v;(case l=>walk_at"k");(case s=>exact lb rfl);(case v=>exact .cons rfl (.cons ⟨_,rfl⟩ (.cons ⟨_,rfl⟩ (.nil)))))
   (case q9=>refine' bL ?l ?s ?v;(case l=>walk_at"k");(case s=>exact lb rfl);(case v=>exact .cons rfl (.cons ⟨_,rfl⟩ (.cons ⟨_,rfl⟩ (.nil)))))
   (case q10=>refine' bL ?l ?s ?v;(case l=>walk_at"k");(case s=>exact lb rfl);(case v=>exact .cons rfl (.cons ⟨_,rfl⟩ (.cons ⟨_,rfl⟩ (.nil)))))
   (case q11=>refine' bL ?l ?s ?v;(case l=>walk_at"k");(case s=>exact lb rfl);(case v=>exact .cons rfl (.cons ⟨_,rfl⟩ (.cons ⟨_,rfl⟩ (.nil)))))
   (case q12=>refine' bL ?l ?s ?v;(case l=>walk_at"k");(case s=>exact lb rfl);(case v=>exact .cons rfl (.cons ⟨_,rfl⟩ (.cons ⟨_,rfl⟩ (.nil)))))
   (case q13=>refine' bL ?l ?s ?v;(case l=>walk_at"k");(case s=>exact lb rfl);(case v=>exact .cons rfl (.cons ⟨_,rfl⟩ (.cons ⟨_,rfl⟩ (.nil)))))
   (case q14=>refine' bL ?l ?s ?v;(case l=>walk_at"k");(case s=>exact lb rfl);(case v=>exact .cons rfl (.cons ⟨_,rfl⟩ (.cons ⟨_,rfl⟩ (.nil)))))
   (case q15=>refine' bL ?l ?s ?v;(case l=>walk_at"k");(case s=>exact lb rfl);(case v=>exact .cons rfl (.cons ⟨_,rfl⟩ (.cons ⟨_,rfl⟩ (.nil)))))
   (case q16=>refine' bL ?l ?s ?v;(case l=>walk_at"k");(case s=>exact lb rfl);(case v=>exact .cons rfl (.cons ⟨_,rfl⟩ (.cons ⟨_,rfl⟩ (.nil)))))
   (case q17=>refine' bL ?l ?s ?v;(case l=>walk_at"k");(case s=>exact lb rfl);(case v=>exact .cons rfl (.cons ⟨_,rfl⟩ (.cons ⟨_,rfl⟩ (.nil)))))
   (case q18=>refine' bL ?l ?s ?v;(case l=>walk_at"k");(case s=>exact lb rfl);(case v=>exact .cons rfl (.cons ⟨_,rfl⟩ (.cons ⟨_,rfl⟩ (.nil)))))
   (case q19=>refine' bL ?l ?s ?v;(case l=>walk_at"k");(case s=>exact lb rfl);(case v=>exact .cons rfl (.cons ⟨_,rfl⟩ (.cons ⟨_,rfl⟩ (.nil)))))
  all_goals (try (rewrite [hK];k_is))
 case S=>
  intro K H xs a hO hwi hask hx;cases hx with
  |cons h1 h2=>
   cases h2;cases h1 with
   |lst hs ha=>
    have e:=L2.xg a.1 _ ha;subst e;have q:((Codec.inLen 0 16000 a.1&&a.1.all (Codec.inInt (-9223372036854775808) 9223372036854775807))&&true)=true:=hwi;rw[and_eq_true,and_eq_true]at q;exact Pc.Dh hO hs (Codec.inNat_iff.mp q.1.1).2 hask λH' la hl=>.lst (L2.aR.of hl) (L2.xf _)
