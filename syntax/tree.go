// Package syntax reads a text of rules into trees.
package syntax

// Rule is one rule of a text: its name, the place where the name begins, and
// what the rule matches.
type Rule struct {
	Name  string
	At    int
	Match Node
}

// Kind tells what a Node stands for.
type Kind int

const (
	One    Kind = iota // one byte of Bytes
	Row                // the parts, one behind the other
	Either             // any one of the parts
	Repeat             // the only part: perhaps not at all (None), perhaps more than once (Again)
)

// Node is a piece of a rule. Round brackets leave no node behind, since they
// do no more than shape the tree.
type Node struct {
	Kind        Kind
	Bytes       Set
	Parts       []Node
	None, Again bool
}

// Count tells how many NODES the document counts here.
func (n Node) Count() int {
	count := n.own()
	for _, part := range n.Parts {
		count += part.Count()
	}
	return count
}

// own counts what is written for the node itself: a row is written by nothing
// but its parts, a choice by the bars between them.
func (n Node) own() int {
	switch n.Kind {
	case Row:
		return 0
	case Either:
		return len(n.Parts) - 1
	default:
		return 1
	}
}

// Empty tells whether the node matches the empty text.
func (n Node) Empty() bool {
	switch n.Kind {
	case Row:
		return n.emptyParts() == len(n.Parts)
	case Either:
		return n.emptyParts() > 0
	case Repeat:
		return n.None || n.emptyParts() > 0
	default:
		return false
	}
}

func (n Node) emptyParts() int {
	count := 0
	for _, part := range n.Parts {
		if part.Empty() {
			count++
		}
	}
	return count
}
