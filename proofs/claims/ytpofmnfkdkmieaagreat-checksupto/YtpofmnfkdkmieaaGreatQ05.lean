/- What is proved here: what the program's own tables say of its -/
import Derived.Test.YtpofmnfkdkmieaaGreatProg
import Derived.Test.YtpofmnfkdkmieaaGreatQ02
set_option linter.unusedVariables false
set_option linter.unusedSimpArgs false
namespace Go.Proofs.YtpofmnfkdkmieaaGreat
namespace E
open Go Go.RowKit
def fTab:List (Nat × Nat × Nat):=[(24,0,0),(24,1,1),(24,2,2),(24,3,3),(25,0,0),(25,1,1),(25,2,2),(25,3,3),(37,0,0),(37,1,1),(37,2,2),(37,3,3),(37,4,4),(37,5,5),(37,6,6),(37,7,7),(37,8,8),(37,9,9),(38,0,0),(38,1,1),(38,2,2),(38,3,3),(38,4,4),(38,5,5),(38,6,6),(38,7,7),(38,8,8),(38,9,9),(39,0,0),(40,0,0),(70,0,0),(70,1,1),(71,0,0),(71,1,1),(72,0,0),(72,1,1),(72,2,2),(72,3,3),(73,0,0),(73,1,1),(73,2,2),(73,3,3),(74,0,0),(74,1,1),(74,2,2),(75,0,0),(75,1,1),(75,2,2),(88,0,0),(88,1,1),(89,0,0),(89,1,1),(97,0,0),(97,1,1),(97,2,2),(98,0,0),(98,1,1),(98,2,2),(127,0,0),(127,1,1),(127,2,2),(128,0,0),(128,1,1),(128,2,2),(133,0,0),(133,1,1),(133,2,2),(133,3,3),(133,4,5),(133,5,6),(133,6,7),(133,7,8),(133,8,9),(134,0,0),(134,1,1),(134,2,2),(134,3,3),(134,4,5),(134,5,6),(134,6,7),(134,7,8),(134,8,9),(135,0,0),(135,1,1),(136,0,0),(136,1,1),(142,0,0),(142,1,1),(143,0,0),(143,1,1),(168,0,0),(168,1,1),(168,2,2),(168,3,3),(169,0,0),(169,1,1),(169,2,2),(169,3,3),(175,0,0),(175,1,1),(175,2,2),(176,0,0),(176,1,1),(176,2,2),(184,0,0),(184,1,1),(184,2,2),(185,0,0),(185,1,1),(185,2,2),(200,0,0),(200,1,1),(201,0,0),(201,1,1),(202,0,0),(202,1,4),(202,2,5),(202,3,6),(202,4,16),(202,5,17),(202,6,19),(203,0,0),(203,1,4),(203,2,5),(203,3,6),(203,4,16),(203,5,17),(203,6,19),(207,0,0),(207,1,4),(207,2,14),(207,3,15),(207,4,16),(207,5,17),(207,6,18),(208,0,0),(208,1,4),(208,2,14),(208,3,15),(208,4,16),(208,5,17),(208,6,18),(225,0,0),(226,0,0),(232,0,0),(233,0,0),(263,0,0),(263,1,1),(263,2,2),(263,3,3),(264,0,0),(264,1,1),(264,2,2),(264,3,3)]
theorem fTab_ok:∀ e ∈ fTab,FF Tryz.prog e.1 e.2.1 e.2.2:=by
 simp only [fTab,List.forall_mem_cons];refine ⟨?_,?_,?_,?_,?_,?_,?_,?_,?_,?_,?_,?_,?_,?_,?_,?_,?_,?_,?_,?_,?_,?_,?_,?_,?_,?_,?_,?_,?_,?_,?_,?_,?_,?_,?_,?_,?_,?_,?_,?_,?_,?_,?_,?_,?_,?_,?_,?_,?_,?_,?_,?_,?_,?_,?_,?_,?_,?_,?_,?_,?_,?_,?_,?_,?_,?_,?_,?_,?_,?_,?_,?_,?_,?_,?_,?_,?_,?_,?_,?_,?_,?_,?_,?_,?_,?_,?_,?_,?_,?_,?_,?_,?_,?_,?_,?_,?_,?_,?_,?_,?_,?_,?_,?_,?_,?_,?_,?_,?_,?_,?_,?_,?_,?_,?_,?_,?_,?_,?_,?_,?_,?_,?_,?_,?_,?_,?_,?_,?_,?_,?_,?_,?_,?_,?_,?_,?_,?_,?_,?_,?_,?_,?_,?_,?_,?_,?_,?_,?_,?_,?_,?_,?_,?_,List.forall_mem_nil _⟩
 iterate 154 (· intro b off w;kernel_rfl)
def oneTab:List (Nat):=[1,2,3,4,5,9,22,23,26,27,28,29,30,31,32,33,34,35,36,47,48,51,53,54,64,69,76,92,103,119,131,132,141,159,183,186,187,197,198,206,224,229,231,252,254,259,260,266,270,271,276,293,295,310,335,362,403,412,441,448,464,468]
theorem oneTab_ok:∀ e ∈ oneTab,T1 Tryz.prog e:=by
 simp only [oneTab,List.forall_mem_cons];refine ⟨?_,?_,?_,?_,?_,?_,?_,?_,?_,?_,?_,?_,?_,?_,?_,?_,?_,?_,?_,?_,?_,?_,?_,?_,?_,?_,?_,?_,?_,?_,?_,?_,?_,?_,?_,?_,?_,?_,?_,?_,?_,?_,?_,?_,?_,?_,?_,?_,?_,?_,?_,?_,?_,?_,?_,?_,?_,?_,?_,?_,?_,?_,List.forall_mem_nil _⟩
 iterate 62 (· intro w;exact ⟨by kernel_rfl,by kernel_rfl⟩)
def nTab:List (Nat × Nat):=[(24,4),(25,4),(37,10),(38,10),(39,10),(40,10),(70,2),(71,2),(72,5),(73,5),(74,7),(75,7),(88,2),(89,2),(97,3),(98,3),(127,4),(128,4),(133,10),(134,10),(135,2),(136,2),(142,2),(143,2),(168,4),(169,4),(175,3),(176,3),(184,3),(185,3),(200,2),(201,2),(202,20),(203,20),(207,19),(208,19),(225,1),(226,1),(232,1),(233,1),(263,4),(264,4),(273,0)]
theorem nTab_ok:∀ e ∈ nTab,TN Tryz.prog e.1 e.2:=by
 simp only [nTab,List.forall_mem_cons];refine ⟨?_,?_,?_,?_,?_,?_,?_,?_,?_,?_,?_,?_,?_,?_,?_,?_,?_,?_,?_,?_,?_,?_,?_,?_,?_,?_,?_,?_,?_,?_,?_,?_,?_,?_,?_,?_,?_,?_,?_,?_,?_,?_,?_,List.forall_mem_nil _⟩
 iterate 43 (· intro w;exact ⟨by kernel_rfl,by kernel_rfl⟩)
def sTab:List (Nat × Nat × Nat):=[(22,128,4),(23,134,10),(27,69,1),(28,76,1),(29,22,1),(30,23,1),(31,131,1),(32,132,1),(33,47,1),(34,92,1),(35,53,1),(36,54,1),(47,136,2),(53,89,2),(54,3,1),(64,5,1),(69,71,2),(76,75,7),(92,98,3),(131,169,4),(132,176,3),(198,264,4),(310,9,1)]
theorem sTab_ok:∀ e ∈ sTab,TS Tryz.prog e.1 e.2.1 e.2.2:=by
 simp only [sTab,List.forall_mem_cons];refine ⟨?_,?_,?_,?_,?_,?_,?_,?_,?_,?_,?_,?_,?_,?_,?_,?_,?_,?_,?_,?_,?_,?_,?_,List.forall_mem_nil _⟩
 iterate 23 (· exact ⟨by kernel_rfl,fun w=>by kernel_rfl⟩)
def strTab:List (Nat):=[9]
theorem strTab_ok:∀ e ∈ strTab,TStr Tryz.prog e:=by
 simp only [strTab,List.forall_mem_cons];refine ⟨?_,List.forall_mem_nil _⟩
 ·show _=_;kernel_rfl
def zTab:List (Nat × List Value):=[(1,[.nilFunc]),(2,[.int .i64 0]),(3,[.int .i64 0]),(4,[.bool false]),(5,[.int .u8 0]),(9,[.string ⟨#[]⟩]),(22,[.slice none 0 0]),(23,[.slice none 0 0]),(24,[.string ⟨#[]⟩,.string ⟨#[]⟩,.slice none 0 0,.slice none 0 0]),(25,[.string ⟨#[]⟩,.string ⟨#[]⟩,.slice none 0 0,.slice none 0 0]),(26,[.pointer none]),(27,[.slice none 0 0]),(28,[.slice none 0 0]),(29,[.slice none 0 0]),(30,[.slice none 0 0]),(31,[.slice none 0 0]),(32,[.slice none 0 0]),(33,[.slice none 0 0]),(34,[.slice none 0 0]),(35,[.slice none 0 0]),(36,[.slice none 0 0]),(37,[.slice none 0 0,.slice none 0 0,.slice none 0 0,.slice none 0 0,.slice none 0 0,.slice none 0 0,.slice none 0 0,.slice none 0 0,.slice none 0 0,.slice none 0 0]),(38,[.slice none 0 0,.slice none 0 0,.slice none 0 0,.slice none 0 0,.slice none 0 0,.slice none 0 0,.slice none 0 0,.slice none 0 0,.slice none 0 0,.slice none 0 0]),(39,[.slice none 0 0,.slice none 0 0,.slice none 0 0,.slice none 0 0,.slice none 0 0,.slice none 0 0,.slice none 0 0,.slice none 0 0,.slice none 0 0,.slice none 0 0]),(40,[.slice none 0 0,.slice none 0 0,.slice none 0 0,.slice none 0 0,.slice none 0 0,.slice none 0 0,.slice none 0 0,.slice none 0 0,.slice none 0 0,.slice none 0 0]),(47,[.slice none 0 0]),(48,[.int .i64 0]),(51,[.nilFunc]),(53,[.slice none 0 0]),(54,[.slice none 0 0]),(64,[.slice none 0 0]),(69,[.slice none 0 0]),(70,[.int .i64 0,.string ⟨#[]⟩]),(71,[.int .i64 0,.string ⟨#[]⟩]),(72,[.string ⟨#[]⟩,.string ⟨#[]⟩,.slice none 0 0,.int .i64 0,.string ⟨#[]⟩]),(73,[.string ⟨#[]⟩,.string ⟨#[]⟩,.slice none 0 0,.int .i64 0,.string ⟨#[]⟩]),(74,[.int .i64 0,.int .i64 0,.string ⟨#[]⟩,.string ⟨#[]⟩,.slice none 0 0,.int .i64 0,.string ⟨#[]⟩]),(75,[.int .i64 0,.int .i64 0,.string ⟨#[]⟩,.string ⟨#[]⟩,.slice none 0 0,.int .i64 0,.string ⟨#[]⟩]),(76,[.slice none 0 0]),(88,[.string ⟨#[]⟩,.string ⟨#[]⟩]),(89,[.string ⟨#[]⟩,.string ⟨#[]⟩]),(92,[.slice none 0 0]),(97,[.int .i64 0,.int .i64 0,.string ⟨#[]⟩]),(98,[.int .i64 0,.int .i64 0,.string ⟨#[]⟩]),(103,[.int .u64 0]),(119,[.pointer none]),(127,[.string ⟨#[]⟩,.bool false,.int .i64 0,.string ⟨#[]⟩]),(128,[.string ⟨#[]⟩,.bool false,.int .i64 0,.string ⟨#[]⟩]),(131,[.slice none 0 0]),(132,[.slice none 0 0]),(133,[.string ⟨#[]⟩,.bool false,.slice none 0 0,.int .i64 0,.string ⟨#[]⟩,.int .i64 0,.int .i64 0,.slice none 0 0,.slice none 0 0,.slice none 0 0]),(134,[.string ⟨#[]⟩,.bool false,.slice none 0 0,.int .i64 0,.string ⟨#[]⟩,.int .i64 0,.int .i64 0,.slice none 0 0,.slice none 0 0,.slice none 0 0]),(135,[.string ⟨#[]⟩,.string ⟨#[]⟩]),(136,[.string ⟨#[]⟩,.string ⟨#[]⟩]),(141,[.nilFunc]),(142,[.int .i64 0,.int .i64 0]),(143,[.int .i64 0,.int .i64 0]),(159,[.nilFunc]),(168,[.int .i64 0,.int .i64 0,.int .i64 0,.string ⟨#[]⟩]),(169,[.int .i64 0,.int .i64 0,.int .i64 0,.string ⟨#[]⟩]),(175,[.int .i64 0,.slice none 0 0,.slice none 0 0]),(176,[.int .i64 0,.slice none 0 0,.slice none 0 0]),(183,[.pointer none]),(184,[.string ⟨#[]⟩,.int .i64 0,.bool false]),(185,[.string ⟨#[]⟩,.int .i64 0,.bool false]),(186,[.nilFunc]),(187,[.nilFunc]),(197,[.map none]),(198,[.slice none 0 0]),(200,[.slice none 0 0,.slice none 0 0]),(201,[.slice none 0 0,.slice none 0 0]),(202,[.string ⟨#[]⟩,.string ⟨#[]⟩,.slice none 0 0,.slice none 0 0,.map none,.int .i64 0,.string ⟨#[]⟩,.bool false,.slice none 0 0,.int .i64 0,.string ⟨#[]⟩,.int .i64 0,.int .i64 0,.slice none 0 0,.slice none 0 0,.slice none 0 0,.int .i64 0,.slice none 0 0,.slice none 0 0,.bool false]),(203,[.string ⟨#[]⟩,.string ⟨#[]⟩,.slice none 0 0,.slice none 0 0,.map none,.int .i64 0,.string ⟨#[]⟩,.bool false,.slice none 0 0,.int .i64 0,.string ⟨#[]⟩,.int .i64 0,.int .i64 0,.slice none 0 0,.slice none 0 0,.slice none 0 0,.int .i64 0,.slice none 0 0,.slice none 0 0,.bool false]),(206,[.pointer none]),(207,[.string ⟨#[]⟩,.string ⟨#[]⟩,.slice none 0 0,.slice none 0 0,.string ⟨#[]⟩,.bool false,.slice none 0 0,.int .i64 0,.string ⟨#[]⟩,.int .i64 0,.int .i64 0,.slice none 0 0,.slice none 0 0,.slice none 0 0,.slice none 0 0,.slice none 0 0,.slice none 0 0,.bool false,.bool false]),(208,[.string ⟨#[]⟩,.string ⟨#[]⟩,.slice none 0 0,.slice none 0 0,.string ⟨#[]⟩,.bool false,.slice none 0 0,.int .i64 0,.string ⟨#[]⟩,.int .i64 0,.int .i64 0,.slice none 0 0,.slice none 0 0,.slice none 0 0,.slice none 0 0,.slice none 0 0,.slice none 0 0,.bool false,.bool false]),(224,[.pointer none]),(225,[.string ⟨#[]⟩]),(226,[.string ⟨#[]⟩]),(229,[.nilFunc]),(231,[.pointer none]),(232,[.slice none 0 0]),(233,[.slice none 0 0]),(252,[.int .u64 0]),(254,[.nilFunc]),(259,[.nilFunc]),(260,[.nilFunc]),(263,[.nilFunc,.nilFunc,.bool false,.bool false]),(264,[.nilFunc,.nilFunc,.bool false,.bool false]),(266,[.pointer none]),(270,[.nilFunc]),(271,[.nilFunc]),(273,[]),(276,[.nilFunc]),(293,[.nilFunc]),(295,[.nilFunc]),(310,[.slice none 0 0]),(335,[.nilFunc]),(362,[.int .i64 0]),(403,[.pointer none]),(412,[.nilFunc]),(441,[.int .i64 0]),(448,[.int .u32 0]),(464,[.int .u64 0]),(468,[.pointer none])]
theorem zTab_ok:∀ e ∈ zTab,TZ Tryz.prog e.1 e.2:=by
 simp only [zTab,List.forall_mem_cons];refine ⟨?_,?_,?_,?_,?_,?_,?_,?_,?_,?_,?_,?_,?_,?_,?_,?_,?_,?_,?_,?_,?_,?_,?_,?_,?_,?_,?_,?_,?_,?_,?_,?_,?_,?_,?_,?_,?_,?_,?_,?_,?_,?_,?_,?_,?_,?_,?_,?_,?_,?_,?_,?_,?_,?_,?_,?_,?_,?_,?_,?_,?_,?_,?_,?_,?_,?_,?_,?_,?_,?_,?_,?_,?_,?_,?_,?_,?_,?_,?_,?_,?_,?_,?_,?_,?_,?_,?_,?_,?_,?_,?_,?_,?_,?_,?_,?_,?_,?_,?_,?_,?_,?_,?_,?_,?_,List.forall_mem_nil _⟩
 iterate 105 (· intro w;kernel_rfl)
def aTab:List (Nat × Nat × Nat × Nat × Value):=[(22,128,4,48,.agg #[.string ⟨#[]⟩,.bool false,.int .i64 0,.string ⟨#[]⟩]),(23,134,10,160,.agg #[.string ⟨#[]⟩,.bool false,.slice none 0 0,.int .i64 0,.string ⟨#[]⟩,.int .i64 0,.int .i64 0,.slice none 0 0,.slice none 0 0,.slice none 0 0]),(27,69,1,24,.slice none 0 0),(28,76,1,24,.slice none 0 0),(29,22,1,24,.slice none 0 0),(30,23,1,24,.slice none 0 0),(31,131,1,24,.slice none 0 0),(32,132,1,24,.slice none 0 0),(33,47,1,24,.slice none 0 0),(34,92,1,24,.slice none 0 0),(35,53,1,24,.slice none 0 0),(36,54,1,24,.slice none 0 0),(47,136,2,32,.agg #[.string ⟨#[]⟩,.string ⟨#[]⟩]),(53,89,2,32,.agg #[.string ⟨#[]⟩,.string ⟨#[]⟩]),(54,3,1,8,.int .i64 0),(64,5,1,1,.int .u8 0),(69,71,2,24,.agg #[.int .i64 0,.string ⟨#[]⟩]),(76,75,7,96,.agg #[.int .i64 0,.int .i64 0,.string ⟨#[]⟩,.string ⟨#[]⟩,.slice none 0 0,.int .i64 0,.string ⟨#[]⟩]),(92,98,3,32,.agg #[.int .i64 0,.int .i64 0,.string ⟨#[]⟩]),(131,169,4,40,.agg #[.int .i64 0,.int .i64 0,.int .i64 0,.string ⟨#[]⟩]),(132,176,3,56,.agg #[.int .i64 0,.slice none 0 0,.slice none 0 0]),(198,264,4,24,.agg #[.nilFunc,.nilFunc,.bool false,.bool false]),(310,9,1,16,.string ⟨#[]⟩)]
theorem aTab_ok:∀ e ∈ aTab,TA Tryz.prog e.1 e.2.1 e.2.2.1 e.2.2.2.1 e.2.2.2.2:=by
 simp only [aTab,List.forall_mem_cons];refine ⟨?_,?_,?_,?_,?_,?_,?_,?_,?_,?_,?_,?_,?_,?_,?_,?_,?_,?_,?_,?_,?_,?_,?_,List.forall_mem_nil _⟩
 iterate 23 (· exact ⟨by kernel_rfl,by kernel_rfl,by kernel_rfl,by decide⟩)
def bTab:List (Nat × List Value × List (Nat × Nat)):=[(24,[.string ⟨#[]⟩,.string ⟨#[]⟩,.slice none 0 0,.slice none 0 0],[(0,1),(1,1),(2,1),(3,1)]),(25,[.string ⟨#[]⟩,.string ⟨#[]⟩,.slice none 0 0,.slice none 0 0],[(0,1),(1,1),(2,1),(3,1)]),(37,[.slice none 0 0,.slice none 0 0,.slice none 0 0,.slice none 0 0,.slice none 0 0,.slice none 0 0,.slice none 0 0,.slice none 0 0,.slice none 0 0,.slice none 0 0],[(0,1),(1,1),(2,1),(3,1),(4,1),(5,1),(6,1),(7,1),(8,1),(9,1)]),(38,[.slice none 0 0,.slice none 0 0,.slice none 0 0,.slice none 0 0,.slice none 0 0,.slice none 0 0,.slice none 0 0,.slice none 0 0,.slice none 0 0,.slice none 0 0],[(0,1),(1,1),(2,1),(3,1),(4,1),(5,1),(6,1),(7,1),(8,1),(9,1)]),(39,[.slice none 0 0,.slice none 0 0,.slice none 0 0,.slice none 0 0,.slice none 0 0,.slice none 0 0,.slice none 0 0,.slice none 0 0,.slice none 0 0,.slice none 0 0],[(0,10)]),(40,[.slice none 0 0,.slice none 0 0,.slice none 0 0,.slice none 0 0,.slice none 0 0,.slice none 0 0,.slice none 0 0,.slice none 0 0,.slice none 0 0,.slice none 0 0],[(0,10)]),(70,[.int .i64 0,.string ⟨#[]⟩],[(0,1),(1,1)]),(71,[.int .i64 0,.string ⟨#[]⟩],[(0,1),(1,1)]),(72,[.string ⟨#[]⟩,.string ⟨#[]⟩,.slice none 0 0,.int .i64 0,.string ⟨#[]⟩],[(0,1),(1,1),(2,1),(3,2)]),(73,[.string ⟨#[]⟩,.string ⟨#[]⟩,.slice none 0 0,.int .i64 0,.string ⟨#[]⟩],[(0,1),(1,1),(2,1),(3,2)]),(74,[.int .i64 0,.int .i64 0,.string ⟨#[]⟩,.string ⟨#[]⟩,.slice none 0 0,.int .i64 0,.string ⟨#[]⟩],[(0,1),(1,1),(2,5)]),(75,[.int .i64 0,.int .i64 0,.string ⟨#[]⟩,.string ⟨#[]⟩,.slice none 0 0,.int .i64 0,.string ⟨#[]⟩],[(0,1),(1,1),(2,5)]),(88,[.string ⟨#[]⟩,.string ⟨#[]⟩],[(0,1),(1,1)]),(89,[.string ⟨#[]⟩,.string ⟨#[]⟩],[(0,1),(1,1)]),(97,[.int .i64 0,.int .i64 0,.string ⟨#[]⟩],[(0,1),(1,1),(2,1)]),(98,[.int .i64 0,.int .i64 0,.string ⟨#[]⟩],[(0,1),(1,1),(2,1)]),(127,[.string ⟨#[]⟩,.bool false,.int .i64 0,.string ⟨#[]⟩],[(0,1),(1,1),(2,2)]),(128,[.string ⟨#[]⟩,.bool false,.int .i64 0,.string ⟨#[]⟩],[(0,1),(1,1),(2,2)]),(133,[.string ⟨#[]⟩,.bool false,.slice none 0 0,.int .i64 0,.string ⟨#[]⟩,.int .i64 0,.int .i64 0,.slice none 0 0,.slice none 0 0,.slice none 0 0],[(0,1),(1,1),(2,1),(3,2),(5,1),(6,1),(7,1),(8,1),(9,1)]),(134,[.string ⟨#[]⟩,.bool false,.slice none 0 0,.int .i64 0,.string ⟨#[]⟩,.int .i64 0,.int .i64 0,.slice none 0 0,.slice none 0 0,.slice none 0 0],[(0,1),(1,1),(2,1),(3,2),(5,1),(6,1),(7,1),(8,1),(9,1)]),(135,[.string ⟨#[]⟩,.string ⟨#[]⟩],[(0,1),(1,1)]),(136,[.string ⟨#[]⟩,.string ⟨#[]⟩],[(0,1),(1,1)]),(142,[.int .i64 0,.int .i64 0],[(0,1),(1,1)]),(143,[.int .i64 0,.int .i64 0],[(0,1),(1,1)]),(168,[.int .i64 0,.int .i64 0,.int .i64 0,.string ⟨#[]⟩],[(0,1),(1,1),(2,1),(3,1)]),(169,[.int .i64 0,.int .i64 0,.int .i64 0,.string ⟨#[]⟩],[(0,1),(1,1),(2,1),(3,1)]),(175,[.int .i64 0,.slice none 0 0,.slice none 0 0],[(0,1),(1,1),(2,1)]),(176,[.int .i64 0,.slice none 0 0,.slice none 0 0],[(0,1),(1,1),(2,1)]),(184,[.string ⟨#[]⟩,.int .i64 0,.bool false],[(0,1),(1,1),(2,1)]),(185,[.string ⟨#[]⟩,.int .i64 0,.bool false],[(0,1),(1,1),(2,1)]),(200,[.slice none 0 0,.slice none 0 0],[(0,1),(1,1)]),(201,[.slice none 0 0,.slice none 0 0],[(0,1),(1,1)]),(202,[.string ⟨#[]⟩,.string ⟨#[]⟩,.slice none 0 0,.slice none 0 0,.map none,.int .i64 0,.string ⟨#[]⟩,.bool false,.slice none 0 0,.int .i64 0,.string ⟨#[]⟩,.int .i64 0,.int .i64 0,.slice none 0 0,.slice none 0 0,.slice none 0 0,.int .i64 0,.slice none 0 0,.slice none 0 0,.bool false],[(0,4),(4,1),(5,1),(6,10),(16,1),(17,2),(19,1)]),(203,[.string ⟨#[]⟩,.string ⟨#[]⟩,.slice none 0 0,.slice none 0 0,.map none,.int .i64 0,.string ⟨#[]⟩,.bool false,.slice none 0 0,.int .i64 0,.string ⟨#[]⟩,.int .i64 0,.int .i64 0,.slice none 0 0,.slice none 0 0,.slice none 0 0,.int .i64 0,.slice none 0 0,.slice none 0 0,.bool false],[(0,4),(4,1),(5,1),(6,10),(16,1),(17,2),(19,1)]),(207,[.string ⟨#[]⟩,.string ⟨#[]⟩,.slice none 0 0,.slice none 0 0,.string ⟨#[]⟩,.bool false,.slice none 0 0,.int .i64 0,.string ⟨#[]⟩,.int .i64 0,.int .i64 0,.slice none 0 0,.slice none 0 0,.slice none 0 0,.slice none 0 0,.slice none 0 0,.slice none 0 0,.bool false,.bool false],[(0,4),(4,10),(14,1),(15,1),(16,1),(17,1),(18,1)]),(208,[.string ⟨#[]⟩,.string ⟨#[]⟩,.slice none 0 0,.slice none 0 0,.string ⟨#[]⟩,.bool false,.slice none 0 0,.int .i64 0,.string ⟨#[]⟩,.int .i64 0,.int .i64 0,.slice none 0 0,.slice none 0 0,.slice none 0 0,.slice none 0 0,.slice none 0 0,.slice none 0 0,.bool false,.bool false],[(0,4),(4,10),(14,1),(15,1),(16,1),(17,1),(18,1)]),(225,[.string ⟨#[]⟩],[(0,1)]),(226,[.string ⟨#[]⟩],[(0,1)]),(232,[.slice none 0 0],[(0,1)]),(233,[.slice none 0 0],[(0,1)]),(263,[.nilFunc,.nilFunc,.bool false,.bool false],[(0,1),(1,1),(2,1),(3,1)]),(264,[.nilFunc,.nilFunc,.bool false,.bool false],[(0,1),(1,1),(2,1),(3,1)]),(273,[],[])]
theorem bTab_ok:∀ e ∈ bTab,TB Tryz.prog e.1 e.2.1 e.2.2:=by
 simp only [bTab,List.forall_mem_cons];refine ⟨?_,?_,?_,?_,?_,?_,?_,?_,?_,?_,?_,?_,?_,?_,?_,?_,?_,?_,?_,?_,?_,?_,?_,?_,?_,?_,?_,?_,?_,?_,?_,?_,?_,?_,?_,?_,?_,?_,?_,?_,?_,?_,?_,List.forall_mem_nil _⟩
 ·exact ⟨fun w=>by kernel_rfl,_,Tryz.underlying24,fun w=>by kernel_rfl⟩
 ·exact ⟨fun w=>by kernel_rfl,_,Tryz.underlying25,fun w=>by kernel_rfl⟩
 ·exact ⟨fun w=>by kernel_rfl,_,Tryz.underlying37,fun w=>by kernel_rfl⟩
 ·exact ⟨fun w=>by kernel_rfl,_,Tryz.underlying38,fun w=>by kernel_rfl⟩
 ·exact ⟨fun w=>by kernel_rfl,_,Tryz.underlying39,fun w=>by kernel_rfl⟩
 ·exact ⟨fun w=>by kernel_rfl,_,Tryz.underlying40,fun w=>by kernel_rfl⟩
 ·exact ⟨fun w=>by kernel_rfl,_,Tryz.underlying70,fun w=>by kernel_rfl⟩
 ·exact ⟨fun w=>by kernel_rfl,_,Tryz.underlying71,fun w=>by kernel_rfl⟩
 ·exact ⟨fun w=>by kernel_rfl,_,Tryz.underlying72,fun w=>by kernel_rfl⟩
 ·exact ⟨fun w=>by kernel_rfl,_,Tryz.underlying73,fun w=>by kernel_rfl⟩
 ·exact ⟨fun w=>by kernel_rfl,_,Tryz.underlying74,fun w=>by kernel_rfl⟩
 ·exact ⟨fun w=>by kernel_rfl,_,Tryz.underlying75,fun w=>by kernel_rfl⟩
 ·exact ⟨fun w=>by kernel_rfl,_,Tryz.underlying88,fun w=>by kernel_rfl⟩
 ·exact ⟨fun w=>by kernel_rfl,_,Tryz.underlying89,fun w=>by kernel_rfl⟩
 ·exact ⟨fun w=>by kernel_rfl,_,Tryz.underlying97,fun w=>by kernel_rfl⟩
 ·exact ⟨fun w=>by kernel_rfl,_,Tryz.underlying98,fun w=>by kernel_rfl⟩
 ·exact ⟨fun w=>by kernel_rfl,_,Tryz.underlying127,fun w=>by kernel_rfl⟩
 ·exact ⟨fun w=>by kernel_rfl,_,Tryz.underlying128,fun w=>by kernel_rfl⟩
 ·exact ⟨fun w=>by kernel_rfl,_,Tryz.underlying133,fun w=>by kernel_rfl⟩
 ·exact ⟨fun w=>by kernel_rfl,_,Tryz.underlying134,fun w=>by kernel_rfl⟩
 ·exact ⟨fun w=>by kernel_rfl,_,Tryz.underlying135,fun w=>by kernel_rfl⟩
 ·exact ⟨fun w=>by kernel_rfl,_,Tryz.underlying136,fun w=>by kernel_rfl⟩
 ·exact ⟨fun w=>by kernel_rfl,_,Tryz.underlying142,fun w=>by kernel_rfl⟩
 ·exact ⟨fun w=>by kernel_rfl,_,Tryz.underlying143,fun w=>by kernel_rfl⟩
 ·exact ⟨fun w=>by kernel_rfl,_,Tryz.underlying168,fun w=>by kernel_rfl⟩
 ·exact ⟨fun w=>by kernel_rfl,_,Tryz.underlying169,fun w=>by kernel_rfl⟩
 ·exact ⟨fun w=>by kernel_rfl,_,Tryz.underlying175,fun w=>by kernel_rfl⟩
 ·exact ⟨fun w=>by kernel_rfl,_,Tryz.underlying176,fun w=>by kernel_rfl⟩
 ·exact ⟨fun w=>by kernel_rfl,_,Tryz.underlying184,fun w=>by kernel_rfl⟩
 ·exact ⟨fun w=>by kernel_rfl,_,Tryz.underlying185,fun w=>by kernel_rfl⟩
 ·exact ⟨fun w=>by kernel_rfl,_,Tryz.underlying200,fun w=>by kernel_rfl⟩
 ·exact ⟨fun w=>by kernel_rfl,_,Tryz.underlying201,fun w=>by kernel_rfl⟩
 ·exact ⟨fun w=>by kernel_rfl,_,Tryz.underlying202,fun w=>by kernel_rfl⟩
 ·exact ⟨fun w=>by kernel_rfl,_,Tryz.underlying203,fun w=>by kernel_rfl⟩
 ·exact ⟨fun w=>by kernel_rfl,_,Tryz.underlying207,fun w=>by kernel_rfl⟩
 ·exact ⟨fun w=>by kernel_rfl,_,Tryz.underlying208,fun w=>by kernel_rfl⟩
 ·exact ⟨fun w=>by kernel_rfl,_,Tryz.underlying225,fun w=>by kernel_rfl⟩
 ·exact ⟨fun w=>by kernel_rfl,_,Tryz.underlying226,fun w=>by kernel_rfl⟩
 ·exact ⟨fun w=>by kernel_rfl,_,Tryz.underlying232,fun w=>by kernel_rfl⟩
 ·exact ⟨fun w=>by kernel_rfl,_,Tryz.underlying233,fun w=>by kernel_rfl⟩
 ·exact ⟨fun w=>by kernel_rfl,_,Tryz.underlying263,fun w=>by kernel_rfl⟩
 ·exact ⟨fun w=>by kernel_rfl,_,Tryz.underlying264,fun w=>by kernel_rfl⟩
 ·exact ⟨fun w=>by kernel_rfl,_,Tryz.underlying273,fun w=>by kernel_rfl⟩
def iTab:List (Nat × IntKind):=[(2,IntKind.i64),(3,IntKind.i64),(5,IntKind.u8),(48,IntKind.i64),(103,IntKind.u64),(252,IntKind.u64),(362,IntKind.i64),(441,IntKind.i64),(448,IntKind.u32),(464,IntKind.u64)]
theorem iTab_ok:∀ e ∈ iTab,TI Tryz.prog e.1 e.2:=by
 simp only [iTab,List.forall_mem_cons];refine ⟨?_,?_,?_,?_,?_,?_,?_,?_,?_,?_,List.forall_mem_nil _⟩
 iterate 10 (· show _=_;kernel_rfl)
def get3:List (Nat × Nat × Nat)→Nat→Nat→Option Nat
 | [],_,_=>none
 | (a,b,c)::r,s,f=>bif Nat.beq s a&&Nat.beq f b then some c else get3 r s f
def get21:List (Nat × Nat × Nat)→Nat→Option (Nat × Nat)
 | [],_=>none
 | (a,b,c)::r,s=>bif Nat.beq s a then some (b,c) else get21 r s
def get2:List (Nat × Nat)→Nat→Option Nat
 | [],_=>none
 | (a,b)::r,s=>bif Nat.beq s a then some b else get2 r s
def getZ:List (Nat × List Value)→Nat→Option (List Value)
 | [],_=>none
 | (a,b)::r,s=>bif Nat.beq s a then some b else getZ r s
def getA:List (Nat × Nat × Nat × Nat × Value)→Nat→Option (Nat × Nat × Nat × Value)
 | [],_=>none
 | (a,b)::r,s=>bif Nat.beq s a then some b else getA r s
def getB:List (Nat × List Value × List (Nat × Nat))→Nat→Option (List Value × List (Nat × Nat))
 | [],_=>none
 | (a,b)::r,s=>bif Nat.beq s a then some b else getB r s
def getK:List (Nat × IntKind)→Nat→Option IntKind
 | [],_=>none
 | (a,b)::r,s=>bif Nat.beq s a then some b else getK r s
def get1:List Nat→Nat→Bool
 | [],_=>false
 | a::r,s=>bif Nat.beq s a then true else get1 r s
theorem get3_mem:∀ (l:List (Nat × Nat × Nat)) (s f k:Nat),get3 l s f=some k→(s,f,k) ∈ l
 | [],_,_,_,h=>by simp [get3] at h
 | (a,b,c)::r,s,f,k,h=>by
  simp only [get3] at h;cases h1:Nat.beq s a&&Nat.beq f b with
  | true =>
   rw [h1] at h;rw [Bool.and_eq_true] at h1;have e1:=Nat.eq_of_beq_eq_true h1.1;have e2:=Nat.eq_of_beq_eq_true h1.2;have e3:c=k:=Option.some.inj h;subst e1;subst e2;subst e3;exact List.mem_cons_self
  | false=>rw [h1] at h;exact List.mem_cons_of_mem _ (get3_mem r s f k h)
theorem get21_mem:∀ (l:List (Nat × Nat × Nat)) (s b c:Nat),get21 l s=some (b,c)→(s,b,c) ∈ l
 | [],_,_,_,h=>by simp [get21] at h
 | (a,b',c')::r,s,b,c,h=>by
  simp only [get21] at h;cases h1:Nat.beq s a with
  | true =>
   rw [h1] at h;have e1:=Nat.eq_of_beq_eq_true h1;have e2:(b',c')=(b,c):=Option.some.inj h;cases e2;subst e1;exact List.mem_cons_self
  | false=>rw [h1] at h;exact List.mem_cons_of_mem _ (get21_mem r s b c h)
theorem get2_mem:∀ (l:List (Nat × Nat)) (s b:Nat),get2 l s=some b→(s,b) ∈ l
 | [],_,_,h=>by simp [get2] at h
 | (a,b')::r,s,b,h=>by
  simp only [get2] at h;cases h1:Nat.beq s a with
  | true =>
   rw [h1] at h;have e1:=Nat.eq_of_beq_eq_true h1;have e2:b'=b:=Option.some.inj h;subst e1;subst e2;exact List.mem_cons_self
  | false=>rw [h1] at h;exact List.mem_cons_of_mem _ (get2_mem r s b h)
theorem getK_mem:∀ (l:List (Nat × IntKind)) (s:Nat) (b:IntKind),getK l s=some b→(s,b) ∈ l
 | [],_,_,h=>by simp [getK] at h
 | (a,b')::r,s,b,h=>by
  simp only [getK] at h;cases h1:Nat.beq s a with
  | true =>
   rw [h1] at h;have e1:=Nat.eq_of_beq_eq_true h1;have e2:b'=b:=Option.some.inj h;subst e1;subst e2;exact List.mem_cons_self
  | false=>rw [h1] at h;exact List.mem_cons_of_mem _ (getK_mem r s b h)
theorem getZ_mem:∀ (l:List (Nat × List Value)) (s:Nat) (b:List Value),getZ l s=some b→(s,b) ∈ l
 | [],_,_,h=>by simp [getZ] at h
 | (a,b')::r,s,b,h=>by
  simp only [getZ] at h;cases h1:Nat.beq s a with
  | true =>
   rw [h1] at h;have e1:=Nat.eq_of_beq_eq_true h1;have e2:b'=b:=Option.some.inj h;subst e1;subst e2;exact List.mem_cons_self
  | false=>rw [h1] at h;exact List.mem_cons_of_mem _ (getZ_mem r s b h)
theorem getA_mem:∀ (l:List (Nat × Nat × Nat × Nat × Value)) (s:Nat) (b:Nat × Nat × Nat × Value),getA l s=some b→(s,b) ∈ l
 | [],_,_,h=>by simp [getA] at h
 | (a,b')::r,s,b,h=>by
  simp only [getA] at h;cases h1:Nat.beq s a with
  | true =>
   rw [h1] at h;have e1:=Nat.eq_of_beq_eq_true h1;have e2:b'=b:=Option.some.inj h;subst e1;subst e2;exact List.mem_cons_self
  | false=>rw [h1] at h;exact List.mem_cons_of_mem _ (getA_mem r s b h)
theorem getB_mem:∀ (l:List (Nat × List Value × List (Nat × Nat))) (s:Nat) (b:List Value × List (Nat × Nat)),getB l s=some b→(s,b) ∈ l
 | [],_,_,h=>by simp [getB] at h
 | (a,b')::r,s,b,h=>by
  simp only [getB] at h;cases h1:Nat.beq s a with
  | true =>
   rw [h1] at h;have e1:=Nat.eq_of_beq_eq_true h1;have e2:b'=b:=Option.some.inj h;subst e1;subst e2;exact List.mem_cons_self
  | false=>rw [h1] at h;exact List.mem_cons_of_mem _ (getB_mem r s b h)
theorem get1_mem:∀ (l:List Nat) (s:Nat),get1 l s=true→s ∈ l
 | [],_,h=>by simp [get1] at h
 | a::r,s,h=>by
  simp only [get1] at h;cases h1:Nat.beq s a with
  | true =>
   have e1:=Nat.eq_of_beq_eq_true h1;subst e1;exact List.mem_cons_self
  | false=>rw [h1] at h;exact List.mem_cons_of_mem _ (get1_mem r s h)
theorem ff {s f k:Nat} (h:get3 fTab s f=some k):FF Tryz.prog s f k:=fTab_ok (s,f,k) (get3_mem _ _ _ _ h)
theorem t1 {t:Nat} (h:get1 oneTab t=true):T1 Tryz.prog t:=oneTab_ok t (get1_mem _ _ h)
theorem tz {t:Nat} {zs:List Value} (h:getZ zTab t=some zs):TZ Tryz.prog t zs:=zTab_ok (t,zs) (getZ_mem _ _ _ h)
theorem ta {t e size bytes:Nat} {z:Value} (h:getA aTab t=some (e,size,bytes,z)):TA Tryz.prog t e size bytes z:=aTab_ok (t,e,size,bytes,z) (getA_mem _ _ _ h)
theorem tb {t:Nat} {zs:List Value} {pl:List (Nat × Nat)} (h:getB bTab t=some (zs,pl)):TB Tryz.prog t zs pl:=bTab_ok (t,zs,pl) (getB_mem _ _ _ h)
theorem tn {t k:Nat} (h:get2 nTab t=some k):TN Tryz.prog t k:=nTab_ok (t,k) (get2_mem _ _ _ h)
theorem ts {t e k:Nat} (h:get21 sTab t=some (e,k)):TS Tryz.prog t e k:=sTab_ok (t,e,k) (get21_mem _ _ _ _ h)
theorem Sk {t:Nat} (h:get1 strTab t=true):TStr Tryz.prog t:=strTab_ok t (get1_mem _ _ h)
theorem Sj {t:Nat} {k:IntKind} (h:getK iTab t=some k):TI Tryz.prog t k:=iTab_ok (t,k) (getK_mem _ _ _ h)
theorem fn13:IsFn Tryz.prog 13:=⟨_,Tryz.func13,by kernel_rfl,by kernel_rfl⟩
theorem fn16:IsFn Tryz.prog 16:=⟨_,Tryz.func16,by kernel_rfl,by kernel_rfl⟩
theorem fn18:IsFn Tryz.prog 18:=⟨_,Tryz.func18,by kernel_rfl,by kernel_rfl⟩
theorem fn19:IsFn Tryz.prog 19:=⟨_,Tryz.func19,by kernel_rfl,by kernel_rfl⟩
theorem fn20:IsFn Tryz.prog 20:=⟨_,Tryz.func20,by kernel_rfl,by kernel_rfl⟩
theorem fn25:IsFn Tryz.prog 25:=⟨_,Tryz.func25,by kernel_rfl,by kernel_rfl⟩
theorem fn26:IsFn Tryz.prog 26:=⟨_,Tryz.func26,by kernel_rfl,by kernel_rfl⟩
theorem fn44:IsFn Tryz.prog 44:=⟨_,Tryz.func44,by kernel_rfl,by kernel_rfl⟩
theorem fn45:IsFn Tryz.prog 45:=⟨_,Tryz.func45,by kernel_rfl,by kernel_rfl⟩
theorem fn46:IsFn Tryz.prog 46:=⟨_,Tryz.func46,by kernel_rfl,by kernel_rfl⟩
theorem fn47:IsFn Tryz.prog 47:=⟨_,Tryz.func47,by kernel_rfl,by kernel_rfl⟩
theorem fn48:IsFn Tryz.prog 48:=⟨_,Tryz.func48,by kernel_rfl,by kernel_rfl⟩
theorem fn51:IsFn Tryz.prog 51:=⟨_,Tryz.func51,by kernel_rfl,by kernel_rfl⟩
theorem fn52:IsFn Tryz.prog 52:=⟨_,Tryz.func52,by kernel_rfl,by kernel_rfl⟩
theorem fn53:IsFn Tryz.prog 53:=⟨_,Tryz.func53,by kernel_rfl,by kernel_rfl⟩
theorem fn54:IsFn Tryz.prog 54:=⟨_,Tryz.func54,by kernel_rfl,by kernel_rfl⟩
theorem fn56:IsFn Tryz.prog 56:=⟨_,Tryz.func56,by kernel_rfl,by kernel_rfl⟩
theorem fn58:IsFn Tryz.prog 58:=⟨_,Tryz.func58,by kernel_rfl,by kernel_rfl⟩
theorem fn59:IsFn Tryz.prog 59:=⟨_,Tryz.func59,by kernel_rfl,by kernel_rfl⟩
theorem fn60:IsFn Tryz.prog 60:=⟨_,Tryz.func60,by kernel_rfl,by kernel_rfl⟩
theorem fn61:IsFn Tryz.prog 61:=⟨_,Tryz.func61,by kernel_rfl,by kernel_rfl⟩
theorem fn66:IsFn Tryz.prog 66:=⟨_,Tryz.func66,by kernel_rfl,by kernel_rfl⟩
theorem fn67:IsFn Tryz.prog 67:=⟨_,Tryz.func67,by kernel_rfl,by kernel_rfl⟩
theorem fn68:IsFn Tryz.prog 68:=⟨_,Tryz.func68,by kernel_rfl,by kernel_rfl⟩
theorem fn69:IsFn Tryz.prog 69:=⟨_,Tryz.func69,by kernel_rfl,by kernel_rfl⟩
theorem fn70:IsFn Tryz.prog 70:=⟨_,Tryz.func70,by kernel_rfl,by kernel_rfl⟩
theorem fn71:IsFn Tryz.prog 71:=⟨_,Tryz.func71,by kernel_rfl,by kernel_rfl⟩
theorem fn76:IsFn Tryz.prog 76:=⟨_,Tryz.func76,by kernel_rfl,by kernel_rfl⟩
theorem fn77:IsFn Tryz.prog 77:=⟨_,Tryz.func77,by kernel_rfl,by kernel_rfl⟩
theorem fn78:IsFn Tryz.prog 78:=⟨_,Tryz.func78,by kernel_rfl,by kernel_rfl⟩
theorem fn79:IsFn Tryz.prog 79:=⟨_,Tryz.func79,by kernel_rfl,by kernel_rfl⟩
theorem fn80:IsFn Tryz.prog 80:=⟨_,Tryz.func80,by kernel_rfl,by kernel_rfl⟩
theorem fn81:IsFn Tryz.prog 81:=⟨_,Tryz.func81,by kernel_rfl,by kernel_rfl⟩
theorem fn82:IsFn Tryz.prog 82:=⟨_,Tryz.func82,by kernel_rfl,by kernel_rfl⟩
theorem fn83:IsFn Tryz.prog 83:=⟨_,Tryz.func83,by kernel_rfl,by kernel_rfl⟩
theorem fn84:IsFn Tryz.prog 84:=⟨_,Tryz.func84,by kernel_rfl,by kernel_rfl⟩
theorem fn85:IsFn Tryz.prog 85:=⟨_,Tryz.func85,by kernel_rfl,by kernel_rfl⟩
theorem fn86:IsFn Tryz.prog 86:=⟨_,Tryz.func86,by kernel_rfl,by kernel_rfl⟩
theorem fn92:IsFn Tryz.prog 92:=⟨_,Tryz.func92,by kernel_rfl,by kernel_rfl⟩
theorem fn93:IsFn Tryz.prog 93:=⟨_,Tryz.func93,by kernel_rfl,by kernel_rfl⟩
theorem fn94:IsFn Tryz.prog 94:=⟨_,Tryz.func94,by kernel_rfl,by kernel_rfl⟩
theorem fn95:IsFn Tryz.prog 95:=⟨_,Tryz.func95,by kernel_rfl,by kernel_rfl⟩
theorem fn96:IsFn Tryz.prog 96:=⟨_,Tryz.func96,by kernel_rfl,by kernel_rfl⟩
theorem fn103:IsFn Tryz.prog 103:=⟨_,Tryz.func103,by kernel_rfl,by kernel_rfl⟩
theorem fn104:IsFn Tryz.prog 104:=⟨_,Tryz.func104,by kernel_rfl,by kernel_rfl⟩
theorem fn105:IsFn Tryz.prog 105:=⟨_,Tryz.func105,by kernel_rfl,by kernel_rfl⟩
theorem fn106:IsFn Tryz.prog 106:=⟨_,Tryz.func106,by kernel_rfl,by kernel_rfl⟩
theorem fn107:IsFn Tryz.prog 107:=⟨_,Tryz.func107,by kernel_rfl,by kernel_rfl⟩
theorem fn108:IsFn Tryz.prog 108:=⟨_,Tryz.func108,by kernel_rfl,by kernel_rfl⟩
theorem X1:IsFn Tryz.prog 111:=⟨_,Tryz.func111,by kernel_rfl,by kernel_rfl⟩
theorem fn112:IsFn Tryz.prog 112:=⟨_,Tryz.func112,by kernel_rfl,by kernel_rfl⟩
theorem fn113:IsFn Tryz.prog 113:=⟨_,Tryz.func113,by kernel_rfl,by kernel_rfl⟩
theorem fn114:IsFn Tryz.prog 114:=⟨_,Tryz.func114,by kernel_rfl,by kernel_rfl⟩
theorem fn115:IsFn Tryz.prog 115:=⟨_,Tryz.func115,by kernel_rfl,by kernel_rfl⟩
theorem fn116:IsFn Tryz.prog 116:=⟨_,Tryz.func116,by kernel_rfl,by kernel_rfl⟩
theorem fn117:IsFn Tryz.prog 117:=⟨_,Tryz.func117,by kernel_rfl,by kernel_rfl⟩
theorem fn118:IsFn Tryz.prog 118:=⟨_,Tryz.func118,by kernel_rfl,by kernel_rfl⟩
theorem fn120:IsFn Tryz.prog 120:=⟨_,Tryz.func120,by kernel_rfl,by kernel_rfl⟩
theorem fn121:IsFn Tryz.prog 121:=⟨_,Tryz.func121,by kernel_rfl,by kernel_rfl⟩
theorem Mb:IsFn Tryz.prog 122:=⟨_,Tryz.func122,by kernel_rfl,by kernel_rfl⟩
theorem fn123:IsFn Tryz.prog 123:=⟨_,Tryz.func123,by kernel_rfl,by kernel_rfl⟩
theorem fn124:IsFn Tryz.prog 124:=⟨_,Tryz.func124,by kernel_rfl,by kernel_rfl⟩
theorem fn125:IsFn Tryz.prog 125:=⟨_,Tryz.func125,by kernel_rfl,by kernel_rfl⟩
theorem fn131:IsFn Tryz.prog 131:=⟨_,Tryz.func131,by kernel_rfl,by kernel_rfl⟩
theorem fn134:IsFn Tryz.prog 134:=⟨_,Tryz.func134,by kernel_rfl,by kernel_rfl⟩
theorem fn135:IsFn Tryz.prog 135:=⟨_,Tryz.func135,by kernel_rfl,by kernel_rfl⟩
theorem fn136:IsFn Tryz.prog 136:=⟨_,Tryz.func136,by kernel_rfl,by kernel_rfl⟩
theorem fn139:IsFn Tryz.prog 139:=⟨_,Tryz.func139,by kernel_rfl,by kernel_rfl⟩
theorem fn140:IsFn Tryz.prog 140:=⟨_,Tryz.func140,by kernel_rfl,by kernel_rfl⟩
theorem fn141:IsFn Tryz.prog 141:=⟨_,Tryz.func141,by kernel_rfl,by kernel_rfl⟩
theorem fn142:IsFn Tryz.prog 142:=⟨_,Tryz.func142,by kernel_rfl,by kernel_rfl⟩
theorem fn143:IsFn Tryz.prog 143:=⟨_,Tryz.func143,by kernel_rfl,by kernel_rfl⟩
theorem fn148:IsFn Tryz.prog 148:=⟨_,Tryz.func148,by kernel_rfl,by kernel_rfl⟩
theorem fn158:IsFn Tryz.prog 158:=⟨_,Tryz.func158,by kernel_rfl,by kernel_rfl⟩
theorem fn159:IsFn Tryz.prog 159:=⟨_,Tryz.func159,by kernel_rfl,by kernel_rfl⟩
theorem fn160:IsFn Tryz.prog 160:=⟨_,Tryz.func160,by kernel_rfl,by kernel_rfl⟩
theorem fn161:IsFn Tryz.prog 161:=⟨_,Tryz.func161,by kernel_rfl,by kernel_rfl⟩
theorem fn162:IsFn Tryz.prog 162:=⟨_,Tryz.func162,by kernel_rfl,by kernel_rfl⟩
theorem Pe:IsFn Tryz.prog 163:=⟨_,Tryz.func163,by kernel_rfl,by kernel_rfl⟩
theorem fn164:IsFn Tryz.prog 164:=⟨_,Tryz.func164,by kernel_rfl,by kernel_rfl⟩
theorem fn165:IsFn Tryz.prog 165:=⟨_,Tryz.func165,by kernel_rfl,by kernel_rfl⟩
theorem fn167:IsFn Tryz.prog 167:=⟨_,Tryz.func167,by kernel_rfl,by kernel_rfl⟩
theorem fn168:IsFn Tryz.prog 168:=⟨_,Tryz.func168,by kernel_rfl,by kernel_rfl⟩
theorem fn169:IsFn Tryz.prog 169:=⟨_,Tryz.func169,by kernel_rfl,by kernel_rfl⟩
theorem fn170:IsFn Tryz.prog 170:=⟨_,Tryz.func170,by kernel_rfl,by kernel_rfl⟩
theorem Ru:IsFn Tryz.prog 171:=⟨_,Tryz.func171,by kernel_rfl,by kernel_rfl⟩
theorem fn172:IsFn Tryz.prog 172:=⟨_,Tryz.func172,by kernel_rfl,by kernel_rfl⟩
theorem fn173:IsFn Tryz.prog 173:=⟨_,Tryz.func173,by kernel_rfl,by kernel_rfl⟩
theorem fn174:IsFn Tryz.prog 174:=⟨_,Tryz.func174,by kernel_rfl,by kernel_rfl⟩
theorem fn175:IsFn Tryz.prog 175:=⟨_,Tryz.func175,by kernel_rfl,by kernel_rfl⟩
theorem fn180:IsFn Tryz.prog 180:=⟨_,Tryz.func180,by kernel_rfl,by kernel_rfl⟩
theorem fn181:IsFn Tryz.prog 181:=⟨_,Tryz.func181,by kernel_rfl,by kernel_rfl⟩
theorem fn182:IsFn Tryz.prog 182:=⟨_,Tryz.func182,by kernel_rfl,by kernel_rfl⟩
theorem fn183:IsFn Tryz.prog 183:=⟨_,Tryz.func183,by kernel_rfl,by kernel_rfl⟩
theorem fn184:IsFn Tryz.prog 184:=⟨_,Tryz.func184,by kernel_rfl,by kernel_rfl⟩
theorem fn185:IsFn Tryz.prog 185:=⟨_,Tryz.func185,by kernel_rfl,by kernel_rfl⟩
theorem fn186:IsFn Tryz.prog 186:=⟨_,Tryz.func186,by kernel_rfl,by kernel_rfl⟩
theorem fn187:IsFn Tryz.prog 187:=⟨_,Tryz.func187,by kernel_rfl,by kernel_rfl⟩
theorem fn188:IsFn Tryz.prog 188:=⟨_,Tryz.func188,by kernel_rfl,by kernel_rfl⟩
theorem fn189:IsFn Tryz.prog 189:=⟨_,Tryz.func189,by kernel_rfl,by kernel_rfl⟩
theorem fn190:IsFn Tryz.prog 190:=⟨_,Tryz.func190,by kernel_rfl,by kernel_rfl⟩
theorem fn191:IsFn Tryz.prog 191:=⟨_,Tryz.func191,by kernel_rfl,by kernel_rfl⟩
theorem fn192:IsFn Tryz.prog 192:=⟨_,Tryz.func192,by kernel_rfl,by kernel_rfl⟩
theorem fn193:IsFn Tryz.prog 193:=⟨_,Tryz.func193,by kernel_rfl,by kernel_rfl⟩
theorem fn194:IsFn Tryz.prog 194:=⟨_,Tryz.func194,by kernel_rfl,by kernel_rfl⟩
theorem fn195:IsFn Tryz.prog 195:=⟨_,Tryz.func195,by kernel_rfl,by kernel_rfl⟩
theorem fn196:IsFn Tryz.prog 196:=⟨_,Tryz.func196,by kernel_rfl,by kernel_rfl⟩
theorem fn238:IsFn Tryz.prog 238:=⟨_,Tryz.func238,by kernel_rfl,by kernel_rfl⟩
theorem fn242:IsFn Tryz.prog 242:=⟨_,Tryz.func242,by kernel_rfl,by kernel_rfl⟩
theorem fn243:IsFn Tryz.prog 243:=⟨_,Tryz.func243,by kernel_rfl,by kernel_rfl⟩
theorem fn244:IsFn Tryz.prog 244:=⟨_,Tryz.func244,by kernel_rfl,by kernel_rfl⟩
theorem fn245:IsFn Tryz.prog 245:=⟨_,Tryz.func245,by kernel_rfl,by kernel_rfl⟩
theorem fn246:IsFn Tryz.prog 246:=⟨_,Tryz.func246,by kernel_rfl,by kernel_rfl⟩
theorem fn247:IsFn Tryz.prog 247:=⟨_,Tryz.func247,by kernel_rfl,by kernel_rfl⟩
theorem fn248:IsFn Tryz.prog 248:=⟨_,Tryz.func248,by kernel_rfl,by kernel_rfl⟩
theorem fn250:IsFn Tryz.prog 250:=⟨_,Tryz.func250,by kernel_rfl,by kernel_rfl⟩
theorem fn252:IsFn Tryz.prog 252:=⟨_,Tryz.func252,by kernel_rfl,by kernel_rfl⟩
theorem fn253:IsFn Tryz.prog 253:=⟨_,Tryz.func253,by kernel_rfl,by kernel_rfl⟩
theorem fn254:IsFn Tryz.prog 254:=⟨_,Tryz.func254,by kernel_rfl,by kernel_rfl⟩
theorem fn257:IsFn Tryz.prog 257:=⟨_,Tryz.func257,by kernel_rfl,by kernel_rfl⟩
theorem fn258:IsFn Tryz.prog 258:=⟨_,Tryz.func258,by kernel_rfl,by kernel_rfl⟩
theorem fn259:IsFn Tryz.prog 259:=⟨_,Tryz.func259,by kernel_rfl,by kernel_rfl⟩
theorem fn260:IsFn Tryz.prog 260:=⟨_,Tryz.func260,by kernel_rfl,by kernel_rfl⟩
theorem fn261:IsFn Tryz.prog 261:=⟨_,Tryz.func261,by kernel_rfl,by kernel_rfl⟩
theorem fn262:IsFn Tryz.prog 262:=⟨_,Tryz.func262,by kernel_rfl,by kernel_rfl⟩
theorem fn263:IsFn Tryz.prog 263:=⟨_,Tryz.func263,by kernel_rfl,by kernel_rfl⟩
theorem fn264:IsFn Tryz.prog 264:=⟨_,Tryz.func264,by kernel_rfl,by kernel_rfl⟩
theorem fn265:IsFn Tryz.prog 265:=⟨_,Tryz.func265,by kernel_rfl,by kernel_rfl⟩
theorem fn268:IsFn Tryz.prog 268:=⟨_,Tryz.func268,by kernel_rfl,by kernel_rfl⟩
theorem fn269:IsFn Tryz.prog 269:=⟨_,Tryz.func269,by kernel_rfl,by kernel_rfl⟩
theorem fn270:IsFn Tryz.prog 270:=⟨_,Tryz.func270,by kernel_rfl,by kernel_rfl⟩
theorem fn271:IsFn Tryz.prog 271:=⟨_,Tryz.func271,by kernel_rfl,by kernel_rfl⟩
theorem S7:IsFn Tryz.prog 272:=⟨_,Tryz.func272,by kernel_rfl,by kernel_rfl⟩
theorem fn273:IsFn Tryz.prog 273:=⟨_,Tryz.func273,by kernel_rfl,by kernel_rfl⟩
theorem fn274:IsFn Tryz.prog 274:=⟨_,Tryz.func274,by kernel_rfl,by kernel_rfl⟩
theorem fn283:IsFn Tryz.prog 283:=⟨_,Tryz.func283,by kernel_rfl,by kernel_rfl⟩
theorem fn284:IsFn Tryz.prog 284:=⟨_,Tryz.func284,by kernel_rfl,by kernel_rfl⟩
theorem fn285:IsFn Tryz.prog 285:=⟨_,Tryz.func285,by kernel_rfl,by kernel_rfl⟩
theorem fn286:IsFn Tryz.prog 286:=⟨_,Tryz.func286,by kernel_rfl,by kernel_rfl⟩
theorem fn318:IsFn Tryz.prog 318:=⟨_,Tryz.func318,by kernel_rfl,by kernel_rfl⟩
theorem fn319:IsFn Tryz.prog 319:=⟨_,Tryz.func319,by kernel_rfl,by kernel_rfl⟩
theorem fn320:IsFn Tryz.prog 320:=⟨_,Tryz.func320,by kernel_rfl,by kernel_rfl⟩
theorem fn321:IsFn Tryz.prog 321:=⟨_,Tryz.func321,by kernel_rfl,by kernel_rfl⟩
theorem fn322:IsFn Tryz.prog 322:=⟨_,Tryz.func322,by kernel_rfl,by kernel_rfl⟩
theorem fn323:IsFn Tryz.prog 323:=⟨_,Tryz.func323,by kernel_rfl,by kernel_rfl⟩
theorem fn324:IsFn Tryz.prog 324:=⟨_,Tryz.func324,by kernel_rfl,by kernel_rfl⟩
theorem fn325:IsFn Tryz.prog 325:=⟨_,Tryz.func325,by kernel_rfl,by kernel_rfl⟩
theorem fn327:IsFn Tryz.prog 327:=⟨_,Tryz.func327,by kernel_rfl,by kernel_rfl⟩
theorem fn328:IsFn Tryz.prog 328:=⟨_,Tryz.func328,by kernel_rfl,by kernel_rfl⟩
theorem fn330:IsFn Tryz.prog 330:=⟨_,Tryz.func330,by kernel_rfl,by kernel_rfl⟩
theorem fn331:IsFn Tryz.prog 331:=⟨_,Tryz.func331,by kernel_rfl,by kernel_rfl⟩
theorem fn332:IsFn Tryz.prog 332:=⟨_,Tryz.func332,by kernel_rfl,by kernel_rfl⟩
theorem fn333:IsFn Tryz.prog 333:=⟨_,Tryz.func333,by kernel_rfl,by kernel_rfl⟩
theorem fn354:IsFn Tryz.prog 354:=⟨_,Tryz.func354,by kernel_rfl,by kernel_rfl⟩
theorem fn355:IsFn Tryz.prog 355:=⟨_,Tryz.func355,by kernel_rfl,by kernel_rfl⟩
theorem fn356:IsFn Tryz.prog 356:=⟨_,Tryz.func356,by kernel_rfl,by kernel_rfl⟩
theorem fn357:IsFn Tryz.prog 357:=⟨_,Tryz.func357,by kernel_rfl,by kernel_rfl⟩
theorem fn358:IsFn Tryz.prog 358:=⟨_,Tryz.func358,by kernel_rfl,by kernel_rfl⟩
theorem fn359:IsFn Tryz.prog 359:=⟨_,Tryz.func359,by kernel_rfl,by kernel_rfl⟩
theorem fn360:IsFn Tryz.prog 360:=⟨_,Tryz.func360,by kernel_rfl,by kernel_rfl⟩
theorem fn361:IsFn Tryz.prog 361:=⟨_,Tryz.func361,by kernel_rfl,by kernel_rfl⟩
theorem fn362:IsFn Tryz.prog 362:=⟨_,Tryz.func362,by kernel_rfl,by kernel_rfl⟩
theorem X2:(Tryz.prog).follows .mixedOrders=true:=by kernel_rfl
end E
end Go.Proofs.YtpofmnfkdkmieaaGreat
