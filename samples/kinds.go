package samples

import (
	"slices"

	"ambit/api"
)

// LinearKinds are the kinds of linear layers.
func LinearKinds() []int {
	return []int{api.KDense, api.KConv, api.KScale, api.KMean, api.KAdd, api.KTurn}
}

// BentKinds are the kinds of bent layers.
func BentKinds() []int {
	return []int{api.KRelu, api.KLeaky, api.KTanh, api.KSigmoid, api.KSquare, api.KMax}
}

// EveryKind are all kinds there are.
func EveryKind() []int { return append(LinearKinds(), BentKinds()...) }

// ExactKinds are those that tell fractions of fractions.
func ExactKinds() []int {
	return slices.DeleteFunc(EveryKind(), func(k int) bool { return Rises(api.Layer{Kind: k}) })
}

// Rises tells whether what a layer tells is no fraction.
func Rises(l api.Layer) bool { return l.Kind == api.KTanh || l.Kind == api.KSigmoid }
