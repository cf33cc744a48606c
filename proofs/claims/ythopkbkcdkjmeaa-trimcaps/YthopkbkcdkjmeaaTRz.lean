import Derived.Test.YthopkbkcdkjmeaaGXc
import Derived.Test.YthopkbkcdkjmeaaJYa
import Derived.Test.YthopkbkcdkjmeaaGYa
namespace Go.Proofs.Ythopkbkcdkjmeaa
open Go.RowKit
set_option linter.unusedVariables false
-- wholeB_iff colsB_drop of fin_getD nwA nwZ nwZ_ok plainM RndZ RndO ltJ uniq reA sumA set_getD owns_slice colsB_num fval srung posB numN numN_fin cell_heapJ resB oneZ infoZ pv_of hv lt ge gt eq_ordJ le_ordJ neq_ordN eqF lt0_ord gt0_ord
-- boxZ_any newZ_any check_any farZ_is takenZ_any ZR ZD RdF RdIs RdGs BxR wholeB checkB hopAJ wpIn_round_P takeP consP consPs wp_region_P wpAnyP_ready wpAnyP_done kept to_call alloc_kept heap_at append_gr1M append_grM append_gsJ append_gnJ wpList_store_row wpList_store_at wpList_load_row makeFJ4 OwB ColL FrL tkZ_ZR cells6 res_oneJ infoZ wpAnyH_to FnZ WhF RndO uniq RndZ
end Go.Proofs.Ythopkbkcdkjmeaa
