package text

import "ambit/api"

// heads are the words with which layers begin, by their kinds.
var heads = [...]string{
	api.KDense:   "dense",
	api.KConv:    "conv",
	api.KScale:   "scale",
	api.KMean:    "mean",
	api.KAdd:     "add",
	api.KTurn:    "turn",
	api.KRelu:    "relu",
	api.KLeaky:   "leaky",
	api.KTanh:    "tanh",
	api.KSigmoid: "sigmoid",
	api.KSquare:  "square",
	api.KMax:     "max",
}

// kindOf is the kind of the layers that begin with a word; false, if none do.
func kindOf(head string) (int, bool) {
	for kind := api.KDense; kind < len(heads); kind++ {
		if heads[kind] == head {
			return kind, true
		}
	}
	return 0, false
}

// wholesOf are the whole numbers in a layer's head, in their order.
func wholesOf(l *api.Layer) []*int {
	switch l.Kind {
	case api.KDense, api.KTurn:
		return []*int{&l.Out}
	case api.KConv:
		return []*int{&l.Out, &l.KH, &l.KW, &l.SH, &l.SW, &l.PH, &l.PW}
	case api.KMean, api.KMax:
		return []*int{&l.KH, &l.KW, &l.SH, &l.SW, &l.PH, &l.PW}
	case api.KAdd:
		return []*int{&l.From}
	}
	return nil
}

// hasA tells whether A stands behind them.
func hasA(kind int) bool { return kind == api.KMean || kind == api.KLeaky }

// hasLists tells whether the lists W and B stand behind a layer's head.
func hasLists(kind int) bool {
	return kind == api.KDense || kind == api.KConv || kind == api.KScale
}

// hasComplexLists tells whether Z and ZB do.
func hasComplexLists(kind int) bool { return kind == api.KTurn }
