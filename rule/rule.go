// Package rule has what several layers hold to alike.
package rule

import (
	"cmp"

	"wayside/api"
)

// The kinds of queries, and of requests (chapters 18 and 22).
const (
	Far     = 1 // how far To is from From
	Reached = 2 // whether To is reached from From
	Near    = 3 // which places that have all Words are near From
	Cancel  = 4 // a request is taken back
)

// The directions of states and messages (chapter 18).
const (
	Out  = 0 // from From
	Back = 1 // back from To
)

// maxSlot is the greatest slot of a key, and maxDir the greatest direction.
const (
	maxSlot = 1000
	maxDir  = 1
)

// Hits says which of two hits comes ahead: by the lesser D, then the lesser V (chapter 9).
func Hits(a, b api.Hit) int {
	return cmp.Or(cmp.Compare(a.D, b.D), cmp.Compare(a.V, b.V))
}

// Key says whether a key may be (chapter 14).
func Key(k api.Key) bool {
	return within(k.Slot, maxSlot) && within(k.Dir, maxDir) && within(k.V, api.MaxN-1)
}

// State says whether a state, or a message, of that key and D may be (chapters 15 and 16).
func State(k api.Key, d int) bool { return Key(k) && within(d, api.MaxN) }

// Keys says which of two keys is less: by Slot, then Dir, then V (chapter 14).
func Keys(a, b api.Key) int {
	return cmp.Or(cmp.Compare(a.Slot, b.Slot), cmp.Compare(a.Dir, b.Dir), cmp.Compare(a.V, b.V))
}

func within(n, most int) bool { return n >= 0 && n <= most }
