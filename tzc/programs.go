package tzc

import (
	"slices"
	"strings"

	"sundial/api"
	"sundial/code"
	"sundial/tree"
	"sundial/zones"
)

// grower of a tree of spans: forward or inverse.
type grower func([]api.Span) (api.Forest, api.Errno)

// names of a source, of zones and of links together, in their own order: where they stand in the source does not count.
func names(s api.Source) []string {
	var l []string
	for _, z := range s.Zones {
		l = append(l, z.Name)
	}
	for _, x := range s.Links {
		l = append(l, x.Name)
	}
	slices.Sort(l)
	return l
}

// programs of a name of a source. A link's are made anew, since they share no memory with those of its zone.
func programs(s api.Source, n string, ways int) (api.Found, api.Errno) {
	spans, e := zones.Spans(s, n)
	if e != api.OK {
		return api.Found{}, e
	}
	forward, e := program(spans, tree.Forward, ways)
	if e != api.OK {
		return api.Found{}, e
	}
	inverse, e := program(spans, tree.Inverse, ways)
	if e != api.OK {
		return api.Found{}, e
	}
	// The name is a piece of the whole source, that need not be kept with it.
	return api.Found{Name: strings.Clone(n), Forward: forward, Inverse: inverse}, api.OK
}

// program of spans, by a tree of which less is made in some ways.
func program(l []api.Span, grow grower, ways int) (api.Program, api.Errno) {
	f, e := grow(l)
	if e != api.OK {
		return api.Program{}, e
	}
	f, e = tree.Opt(f, ways)
	if e != api.OK {
		return api.Program{}, e
	}
	return code.Gen(f)
}
