package text

import (
	"strconv"
	"strings"

	"ambit/api"
)

// vocabulary is every word that a line may begin with, in a network's text or in a question's.
func vocabulary() []string {
	return strings.Fields("net dense conv scale mean add turn relu leaky tanh sigmoid square max w b z zb names end prop c g target claim k depth looks")
}

// layerWords are the heads of layers, in the order of their kinds.
func layerWords() []string {
	return strings.Fields("dense conv scale mean add turn relu leaky tanh sigmoid square max")
}

// wordsBehind are what must stand behind a head: the field that it is, of a layer or of a network's shape; numbers, pairs or names for any count of them; a whole number, by another name.
func wordsBehind(head string) []string {
	windows := " KH KW SH SW PH PW"
	switch head {
	case "net":
		return strings.Fields("C H W")
	case "dense", "turn":
		return []string{"Out"}
	case "conv":
		return strings.Fields("Out" + windows)
	case "mean":
		return strings.Fields(windows + " A")
	case "max":
		return strings.Fields(windows)
	case "add":
		return []string{"From"}
	case "leaky":
		return []string{"A"}
	case "w", "b", "c", "g", "claim":
		return []string{"numbers"}
	case "z", "zb":
		return []string{"pairs"}
	case "names":
		return []string{"names"}
	case "target", "k", "depth", "looks":
		return []string{"whole"}
	}
	return nil
}

// fieldNamed is one of a layer's whole numbers.
func fieldNamed(l *api.Layer, name string) *int {
	switch name {
	case "Out":
		return &l.Out
	case "KH":
		return &l.KH
	case "KW":
		return &l.KW
	case "SH":
		return &l.SH
	case "SW":
		return &l.SW
	case "PH":
		return &l.PH
	case "PW":
		return &l.PW
	}
	return &l.From
}

// words is a line of a head and numbers.
func words(head string, l ...float64) string {
	all := []string{head}
	for _, a := range l {
		all = append(all, hexOf(a))
	}
	return strings.Join(all, " ")
}

// pairs is a line of a head and complex numbers.
func pairs(head string, l []complex128) string {
	var parts []float64
	for _, z := range l {
		parts = append(parts, real(z), imag(z))
	}
	return words(head, parts...)
}

// layLayer are the lines of a layer, laid by the document's words.
func layLayer(l api.Layer) []string {
	head := layerWords()[l.Kind-1]
	s := head
	for _, name := range wordsBehind(head) {
		if name == "A" {
			s = words(s, l.A)
		} else {
			s += " " + strconv.Itoa(*fieldNamed(&l, name))
		}
	}
	switch head {
	case "dense", "conv", "scale":
		return []string{s, words("w", l.W...), words("b", l.B...)}
	case "turn":
		return []string{s, pairs("z", l.Z), pairs("zb", l.ZB)}
	}
	return []string{s}
}

// layNet is a network's text.
func layNet(n api.Net) string {
	lines := []string{"net " + strconv.Itoa(n.In.C) + " " + strconv.Itoa(n.In.H) + " " + strconv.Itoa(n.In.W)}
	for _, l := range n.Layers {
		lines = append(lines, layLayer(l)...)
	}
	if len(n.Names) > 0 {
		lines = append(lines, "names "+strings.Join(n.Names, " "))
	}
	return text(append(lines, "end")...)
}

// layProp is a question's text.
func layProp(p api.Prop) string {
	lines := []string{"prop", words("c", p.C...)}
	for _, g := range p.G {
		lines = append(lines, words("g", g...))
	}
	lines = append(lines, "target "+strconv.Itoa(p.Target))
	for _, c := range p.Claims {
		lines = append(lines, words("claim", c...))
	}
	return text(append(lines, "k "+strconv.Itoa(p.K), "depth "+strconv.Itoa(p.Depth), "looks "+strconv.Itoa(p.Looks), "end")...)
}
