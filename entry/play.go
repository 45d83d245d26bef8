package entry

import (
	"cmp"
	"slices"

	"telltale/api"
	"telltale/view"
)

// Play: what comes of an entry.
func Play(v api.View, subs []api.Sub, x api.Entry) (api.View, []api.Sub, api.Errno) {
	if !view.Formed(v) || !atRest(subs) || !Formed(x) {
		return api.View{}, nil, api.ErrArg
	}
	known, e := viewBehind(v, x)
	if e != api.OK {
		return api.View{}, nil, e
	}
	wanted, e := subsBehind(subs, x)
	if e != api.OK {
		return api.View{}, nil, e
	}
	return known, wanted, api.OK
}

// viewBehind: a view behind an entry, in new memory.
func viewBehind(v api.View, x api.Entry) (api.View, api.Errno) {
	switch x.Kind {
	case api.EntryNote:
		return view.Take(v, x.Note)
	case api.EntryBody:
		return view.Body(v, x.Body)
	case api.EntryWrite:
		after, e := view.Take(v, x.Note)
		if e != api.OK || !hasValue(x.Note) {
			return after, e
		}
		return view.Body(after, x.Body)
	case api.EntryCheck:
		return ownView(x.View), api.OK
	}
	return ownView(v), api.OK
}

// subsBehind: subscriptions behind an entry, in new memory.
func subsBehind(subs []api.Sub, x api.Entry) ([]api.Sub, api.Errno) {
	switch x.Kind {
	case api.EntrySub:
		return subscribed(subs, x.From, x.Interest)
	case api.EntryCheck:
		return ownSubs(x.Subs), api.OK
	}
	return ownSubs(subs), api.OK
}

// subscribed: subscriptions with another one from a node, or none.
func subscribed(subs []api.Sub, from int, interest []api.Span) ([]api.Sub, api.Errno) {
	list := slices.DeleteFunc(ownSubs(subs), func(s api.Sub) bool {
		return s.From == from
	})
	switch {
	case len(interest) == 0:
		return list, api.OK
	case len(list) == api.MaxSubs:
		return nil, api.ErrMany
	}
	list = append(list, api.Sub{From: from, Interest: slices.Clone(interest)})
	slices.SortFunc(list, func(a, b api.Sub) int {
		return cmp.Compare(a.From, b.From)
	})
	return list, api.OK
}

// ownSubs: subscriptions in new memory.
func ownSubs(subs []api.Sub) []api.Sub {
	own := slices.Clone(subs)
	for i, s := range own {
		own[i].Interest = slices.Clone(s.Interest)
	}
	return own
}

// ownView: a view in new memory.
func ownView(v api.View) api.View {
	v.Known = slices.Clone(v.Known)
	v.Held = slices.Clone(v.Held)
	v.Zones = slices.Clone(v.Zones)
	for i, zone := range v.Zones {
		v.Zones[i].Vector = slices.Clone(zone.Vector)
	}
	v.Bodies = slices.Clone(v.Bodies)
	for i, x := range v.Bodies {
		v.Bodies[i].Value = slices.Clone(x.Value)
	}
	return v
}
