// Package rules: reading rules: see DOC.md.
package rules

import (
	"slices"

	"tessera/api"
	"tessera/syntax"
)

// Check tells how many rules a text has (P3).
func Check(src string) (int, api.Errno, int) {
	list, at, ok := syntax.Read(src)
	if !ok {
		return 0, api.ErrText, at
	}
	nodes := 0
	for i, rule := range list {
		nodes += rule.Match.Count()
		if fault := judge(list[:i], rule, nodes); fault != api.OK {
			return 0, fault, rule.At
		}
	}
	return len(list), api.OK, 0
}

// judge holds a rule against the earlier ones; nodes counts theirs and its own.
func judge(earlier []syntax.Rule, rule syntax.Rule, nodes int) api.Errno {
	sameName := func(other syntax.Rule) bool { return other.Name == rule.Name }
	switch {
	case len(earlier) >= api.MaxRules || nodes > api.MaxNodes:
		return api.ErrMany
	case slices.ContainsFunc(earlier, sameName):
		return api.ErrName
	case rule.Match.Empty():
		return api.ErrEmpty
	default:
		return api.OK
	}
}
