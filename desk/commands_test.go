package desk

import (
	"hash/crc32"
	"strings"
	"testing"

	"ambit/api"
	"ambit/cases"
	"ambit/oracle"
	"ambit/samples"
)

const (
	most  = oracle.Max
	least = oracle.Least
)

// 22.4: each line of the table, on a desk with nothing, with a network, and with both.
func TestEachCommandOnEachDesk(t *testing.T) {
	net, prop := encodedExample(t)
	x := example(t, false)
	account := strings.TrimPrefix(x.Do("account"), "ok ")
	if !strings.HasPrefix(account, "414d424101") {
		t.Fatal(account)
	}
	seen := map[string]bool{}
	for _, c := range [][4]string{
		{netLine, "ok", "ok", "ok"},
		{goodLine, nothing, "ok", "ok"},
		{"netbytes", nothing, "ok " + hexOf(net), "ok " + hexOf(net)},
		{"propbytes", nothing, nothing, "ok " + hexOf(prop)},
		{of("netof", net), "ok", "ok", "ok"},
		{of("propof", prop), nothing, "ok", "ok"},
		{"shape 1", nothing, "ok 2 1 1", "ok 2 1 1"},
		{"verify 3", nothing, nothing, "ok robust 0x1p-1 1"},
		{"radius 1", nothing, nothing, "ok 2 robust 0x1p-1 1"},
		{"bounds 1", nothing, nothing, "ok " + nums(-0.25, 1.75, -0.75, 1.25)},
		{"columns 1", nothing, nothing, "ok 0"},
		{"margin", nothing, nothing, "ok 0x1p-1"},
		{"trial 1", nothing, nothing, "ok none"},
		{"walk 1 2", nothing, "ok " + nums(3, 3, -1, -1), "ok " + nums(3, 3, -1, -1)},
		{"exact 1 2", nothing, "ok " + nums(3, 3, -1, -1), "ok " + nums(3, 3, -1, -1)},
		{"shadow 1 0 1", nothing, nothing, "ok " + nums(0, -0.25, -0.75, 1.75, 1.25)},
		{"account", nothing, nothing, "ok " + account},
		{`check "` + account + `"`, nothing, nothing, "ok 0x1p-1"},
		{"forget", "ok", "ok", "ok"},
	} {
		none, network, both := desks(t)
		does(t, none, c[0], c[1])
		does(t, network, c[0], c[2])
		does(t, both, c[0], c[3])
		seen[strings.Fields(c[0])[0]] = true
	}
	for _, name := range names() {
		if !seen[name] {
			t.Errorf("%s is not asked", name)
		}
	}
	if len(commands()) != len(names()) {
		t.Errorf("%d commands", len(commands()))
	}
}

// 22.4: net, and the lines of what is refused.
func TestNet(t *testing.T) {
	does(t, New(),
		`net ""`, "error 92 1", `net "\n"`, "error 92 2", `net "\n\n"`, "error 92 3", `net "end"`, "error 90 1", `net "net 1 1"`, "error 91 1", `net "net 1 1 1\nw 1"`, "error 90 2",
		`net "net 1 1 1"`, "error 92 2", `net "net 1 1 1\n"`, "error 92 2", `net "net 1 1 1\nend\nend"`, "error 90 3", `net "net 0 1 1\nend"`, "error 60 1", `net "\nnet 257 1 1\nend"`, "error 60 2",
		`net "net 1 1 1\nrelu\n\ndense 1\nw 1 2\nb 0\nend"`, "error 63 4", `net "net 1 1 1\nadd 1\nend"`, "error 66 2", `net "net 1 1 1\nleaky 1.5\nend"`, "error 62 2", `net "net 1 1 1\nleaky 1e400\nend"`, "error 91 2",
		`net "net 1 1 2\nnames a\nend"`, "error 63 1", `net "net 1 1 2\nnames a a\nend"`, "error 67 1", `net "net 1 1 1\nturn 1\nz 1 0\nzb 0 0\nend"`, "error 60 2", `net "net 1 1 2\nturn 1\nz 1\nzb 0 0\nend"`, "error 91 3",
		"netbytes", nothing,
		`net "net 1 1 1\nend"`, "ok", "netbytes", "ok "+hexOf(sealed("AMBN\x01\x01\x01\x01\x00\x00")),
		`net "  net 1 1  1 # a point\n\n#\nrelu\nend # here\n\n"`, "ok", "netbytes", "ok "+hexOf(sealed("AMBN\x01\x01\x01\x01\x01\x07\x00")),
	)
}

// 22.4: prop, and the lines or places of what is refused.
func TestProp(t *testing.T) {
	_, x, _ := desks(t)
	prop := func(inner string) string { return `prop "prop\n` + inner + `\nend"` }
	does(t, x,
		`prop ""`, "error 92 1", `prop "net 1 1 1"`, "error 90 1", `prop "prop 1"`, "error 91 1", `prop "prop\nc 0 x"`, "error 91 2", prop("c 0 0"), "error 90 3", prop(`c 0 0\ntarget 0\nk 1\ndepth 0`), "error 90 6",
		// CheckProp's places.
		prop(`c\ntarget 0\nk 1\ndepth 0\nlooks 1`), "error 63 0",
		prop(`c 0 0 0\ntarget 0\nk 1\ndepth 0\nlooks 1`), "error 63 0",
		prop(`c 0 0\ng 1\ntarget 0\nk 1\ndepth 0\nlooks 1`), "error 63 1",
		prop(`c 0 0\ng 1 1\ng 1 1 1\ntarget 0\nk 1\ndepth 0\nlooks 1`), "error 63 2",
		prop(`c 0 0\ntarget 2\nk 1\ndepth 0\nlooks 1`), "error 68 0",
		prop(`c 0 0\ntarget -2\nk 1\ndepth 0\nlooks 1`), "error 68 0",
		prop(`c 0 0\ntarget -1\nk 1\ndepth 0\nlooks 1`), "error 68 0",
		prop(`c 0 0\ng 1 1\ng 1 1\ntarget -1\nclaim 1 0 0\nclaim 1 0\nk 1\ndepth 0\nlooks 1`), "error 63 4",
		prop(`c 0 0`+strings.Repeat(`\ng 0 0`, 257)+`\ntarget 0\nk 1\ndepth 0\nlooks 1`), "error 65 0",
		prop(`c 0 0\ntarget 0`+strings.Repeat(`\nclaim 0 0 0`, 65)+`\nk 1\ndepth 0\nlooks 1`), "error 65 0",
		prop(`c 0 0\ntarget 0\nk 0\ndepth 0\nlooks 1`), "error 69 0",
		prop(`c 0 0\ntarget 0\nk 9\ndepth 0\nlooks 1`), "error 69 0",
		prop(`c 0 0\ntarget 0\nk 1\ndepth 9\nlooks 1`), "error 69 0",
		prop(`c 0 0\ntarget 0\nk 1\ndepth 0\nlooks 1025`), "error 69 0",
		"propbytes", nothing,
		prop(`c 0 0\ntarget 0\nk 1\ndepth 0\nlooks 1`), "ok",
		"propbytes", "ok "+hexOf(sealed("AMBP\x01\x02"+strings.Repeat("\x00", 16)+"\x00\x01\x00\x01\x00\x01")),
		prop(`c 0 0`+strings.Repeat(`\ng 0 0`, 256)+`\ntarget 1`+strings.Repeat(`\nclaim 0 0 0`, 64)+`\nk 8\ndepth 8\nlooks 1024`), "ok", "columns 0", "ok "+counted(256),
	)
}

// counted are the whole numbers from 0 on, below n.
func counted(n int) string { return strings.Join(decimals(upTo(n)...), " ") }

func upTo(n int) []int {
	var l []int
	for i := range n {
		l = append(l, i)
	}
	return l
}

// 22.4: netbytes and propbytes tell code's bytes, netof and propof read them.
func TestBytes(t *testing.T) {
	var m oracle.Mixer
	for range 200 {
		n := samples.MixedNet(&m)
		p := samples.MixedPropTo(&m, n)
		net, prop := encoded(t, n, p)
		if len(net) > 32000 || len(prop) > 32000 {
			continue
		}
		a, b := linesFor(t, n, p)
		x, y := New(), New()
		does(t, x, of("netof", net), "ok", of("propof", prop), "ok", "netbytes", "ok "+hexOf(net), "propbytes", "ok "+hexOf(prop))
		if len(a) < 65536 && len(b) < 65536 {
			does(t, y, a, "ok", b, "ok", "netbytes", "ok "+hexOf(net), "propbytes", "ok "+hexOf(prop))
		}
		if t.Failed() {
			return
		}
	}
}

// 22.4: netof and propof, and the places of what is refused.
func TestRefusedBytes(t *testing.T) {
	_, x, _ := desks(t)
	net, prop := encodedExample(t)
	turned := func(b []byte, at int) []byte {
		b = append([]byte{}, b...)
		b[at] ^= 1
		return b
	}
	does(t, x,
		of("netof", nil), "error 80 0", of("netof", prop), "error 80 0", of("propof", net), "error 80 0", of("netof", []byte("AMBN")), "error 81 4", of("netof", []byte("AMBN\x02")), "error 81 4",
		of("netof", []byte("AMBN\x01\x00\x01\x01")), "error 60 5", of("netof", []byte("AMBN\x01\x01\x80")), "error 10 6", of("netof", []byte("AMBN\x01\x01\x01\x02\x01\x0d")), "error 61 9",
		of("netof", append(net[:len(net):len(net)], 0)), "error 82 "+decimals(len(net))[0], of("netof", turned(net, len(net)-1)), "error 16 "+decimals(len(net) - 4)[0], of("netof", net[:len(net)-1]), "error 10 "+decimals(len(net) - 4)[0],
		of("propof", []byte("AMBP")), "error 81 4", of("propof", []byte("AMBP\x01\x00")), "error 65 5", of("propof", append(prop[:len(prop):len(prop)], 7)), "error 82 "+decimals(len(prop))[0], of("propof", turned(prop, len(prop)-2)), "error 16 "+decimals(len(prop) - 4)[0],
	)
	// A question that is one, but does not fit its network.
	for want, change := range map[string]func(p *api.Prop){
		"error 63 0": func(p *api.Prop) { p.C, p.G = numbers(0, 0, 0), nil },
		"error 68 0": func(p *api.Prop) { p.Target = 2 },
		"error 63 2": func(p *api.Prop) { p.Target, p.Claims = -1, lists(numbers(1, 0)) },
	} {
		_, p := cases.Example(false)
		change(&p)
		_, b := encoded(t, netOf(1), p)
		does(t, x, of("propof", b), want)
	}
	does(t, x, "propbytes", nothing, of("propof", prop), "ok", "verify 1", "ok robust 0x1p-1 1")
}

// 22.4: shape of every output, and of none.
func TestShape(t *testing.T) {
	x := New()
	net, _ := linesFor(t, samples.Chain(), api.Prop{})
	does(t, x, net, "ok",
		"shape 0", "ok 2 3 4", "shape 1", "ok 2 4 4", "shape 2", "ok 2 4 4", "shape 3", "ok 2 3 5", "shape 4", "ok 2 3 5", "shape 5", "ok 2 3 5", "shape 6", "ok 2 2 2",
		"shape 7", "ok 6 1 1", "shape 9", "ok 6 1 1", "shape 10", "ok 3 1 1", "shape 12", "ok 3 1 1", "shape 13", "error 1", "shape -1", "error 1", "shape 64", "error 1")
	does(t, x, `net "net 4 8 8\nend"`, "ok", "shape 0", "ok 4 8 8", "shape 1", "error 1", "shape -1", "error 1")
	does(t, x, `net "net 1 1 1`+strings.Repeat(`\nrelu`, 64)+`\nend"`, "ok", "shape 64", "ok 1 1 1", "shape 65", "error 1")
}

// sealed are bytes with their sum behind them.
func sealed(s string) []byte {
	sum := crc32.Checksum([]byte(s), crc32.MakeTable(crc32.Castagnoli))
	return append([]byte(s), byte(sum), byte(sum>>8), byte(sum>>16), byte(sum>>24))
}
