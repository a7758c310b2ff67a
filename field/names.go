package field

import (
	"slices"
	"strings"

	"icehouse/api"
	"icehouse/octet"
)

// Get are the values of a name.
func Get(fs []api.Field, name string) []string {
	var values []string
	wanted := among(name)
	for _, f := range fs {
		if wanted(f) {
			values = append(values, strings.Clone(f.Value))
		}
	}
	return values
}

// One is a name's only value.
func One(fs []api.Field, name string) (string, bool) {
	values := Get(fs, name)
	if len(values) != 1 {
		return "", false
	}
	return values[0], true
}

// Without are fields but those of some names.
func Without(fs []api.Field, names ...string) []api.Field {
	var others []api.Field
	unwanted := among(names...)
	for _, f := range fs {
		if !unwanted(f) {
			others = append(others, clone(f))
		}
	}
	return others
}

// With are fields, of which some are others.
func With(fs []api.Field, more ...api.Field) []api.Field {
	var list []api.Field
	// By name: which one of more stays in the end; and what stands in the list already.
	last, placed := map[string]int{}, map[string]struct{}{}
	for i, f := range more {
		last[octet.Lower(f.Name)] = i
	}
	// A name's place is where it is first met, in fs or else in more.
	for _, f := range slices.Concat(fs, more) {
		name := octet.Lower(f.Name)
		if _, ok := placed[name]; ok {
			continue
		}
		if i, ok := last[name]; ok {
			placed[name] = struct{}{}
			f = more[i]
		}
		list = append(list, clone(f))
	}
	return list
}

// among is asked of fields: is it of one of the names?
func among(names ...string) func(api.Field) bool {
	low := map[string]struct{}{}
	for _, name := range names {
		low[octet.Lower(name)] = struct{}{}
	}
	return func(f api.Field) bool {
		_, ok := low[octet.Lower(f.Name)]
		return ok
	}
}

// clone is a field whose texts are copies: an answer shares no memory with what was handed in.
func clone(f api.Field) api.Field {
	return api.Field{Name: strings.Clone(f.Name), Value: strings.Clone(f.Value)}
}
