// Package kinds names the kinds of terms, for each layer that makes terms or looks at them.
package kinds

// The kinds, by their numbers in the document's table.
const (
	None = iota // no term has it
	Text
	Secret
	Row
	Hash
	Mac
	Derived
	Public
	Shared
	Signed
	Sealed
)
