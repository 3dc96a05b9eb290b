package syntax

import (
	"slices"
	"testing"
)

func bytesOf(s Set) []byte {
	var list []byte
	for b := range 256 {
		if s.Has(byte(b)) {
			list = append(list, byte(b))
		}
	}
	return list
}

func allBut(but string) []byte {
	var list []byte
	for b := range 256 {
		if !slices.Contains([]byte(but), byte(b)) {
			list = append(list, byte(b))
		}
	}
	return list
}

// only reads the only atom of the only row of the only rule of a text.
func only(t *testing.T, src string) Node {
	t.Helper()
	list, at, ok := Read(src)
	if !ok || len(list) != 1 || len(list[0].Match.Parts) != 1 || len(list[0].Match.Parts[0].Parts) != 1 {
		t.Fatalf("Read(%q) = %v, %d, %v", src, list, at, ok)
	}
	return list[0].Match.Parts[0].Parts[0]
}

func TestAtomsNameBytes(t *testing.T) {
	for src, want := range map[string][]byte{
		"a=x":                  []byte("x"),
		"a=^":                  []byte("^"),
		"a=-":                  []byte("-"),
		"a==":                  []byte("="),
		`a=\n`:                 {10},
		`a=\t`:                 {9},
		`a=\s`:                 {32},
		`a=\x00`:               {0},
		`a=\x9a`:               {0x9a},
		`a=\xff`:               {255},
		`a=\\`:                 []byte(`\`),
		`a=\-`:                 []byte("-"),
		`a=\|`:                 []byte("|"),
		"a=.":                  allBut("\n"),
		"a=[.]":                []byte("."),
		"a=[b-e]":              []byte("bcde"),
		"a=[zb-da]":            []byte("abcdz"),
		`a=[\t-\nx\]]`:         []byte("\t\n]x"),
		"a=[^b-dx]":            allBut("bcdx"),
		`a=[^\n]`:              allBut("\n"),
		`a=[\x00-\xff]`:        allBut(""),
		`a=[\xfe-\xff]`:        {254, 255},
		`a=[^\x00-a\xc8-\xff]`: allBut("")['b':200],
	} {
		if node := only(t, src); node.Kind != One || !slices.Equal(bytesOf(node.Bytes), want) {
			t.Errorf("Read(%q): %v, want the bytes %v", src, node, want)
		}
	}
}

func TestMarks(t *testing.T) {
	for src, want := range map[string]Node{
		"a=x*": {None: true, Again: true},
		"a=x+": {Again: true},
		"a=x?": {None: true},
	} {
		node := only(t, src)
		if node.Kind != Repeat || node.None != want.None || node.Again != want.Again || len(node.Parts) != 1 || node.Parts[0].Kind != One {
			t.Errorf("Read(%q): %v", src, node)
		}
	}
	outer := only(t, "a=x?+")
	if outer.None || !outer.Again || !outer.Parts[0].None || outer.Parts[0].Again {
		t.Errorf("x?+ is read as %v", outer)
	}
}

// shape writes a tree out, with brackets around every node of parts.
func shape(n Node) string {
	if n.Kind == One {
		return string(bytesOf(n.Bytes))
	}
	out := map[Kind]string{Row: "(", Either: "(|", Repeat: "(*"}[n.Kind]
	for _, part := range n.Parts {
		out += shape(part)
	}
	return out + ")"
}

func TestTreesAndRules(t *testing.T) {
	list, at, ok := Read("ab=xy|z\nc=(x|y)+z\n")
	if !ok || at != 0 || len(list) != 2 {
		t.Fatalf("Read = %v, %d, %v", list, at, ok)
	}
	for i, want := range []struct {
		name, shape string
		at, count   int
	}{{"ab", "(|(xy)(z))", 0, 4}, {"c", "(|((*(|(x)(y)))z))", 8, 5}} {
		rule := list[i]
		if rule.Name != want.name || rule.At != want.at || rule.Match.Count() != want.count || shape(rule.Match) != want.shape {
			t.Errorf("rule %d is %s at %d, of %d nodes, %s", i, rule.Name, rule.At, rule.Match.Count(), shape(rule.Match))
		}
	}
}

func TestNoTextOfRules(t *testing.T) {
	if list, at, ok := Read("a=x\nb=(y"); list != nil || at != 8 || ok {
		t.Errorf("Read = %v, %d, %v", list, at, ok)
	}
}

// P2: what comes out is the caller's.
func TestFreshMemory(t *testing.T) {
	first, _, _ := Read("a=x|y")
	first[0].Match.Parts[0] = Node{}
	first[0].Name = "b"
	second, _, _ := Read("a=x|y")
	if second[0].Name != "a" || shape(second[0].Match) != "(|(x)(y))" {
		t.Errorf("a second reading is %s=%s", second[0].Name, shape(second[0].Match))
	}
}
