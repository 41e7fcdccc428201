// Package kinds names the kinds of terms, of frames and of a handshake's messages, for each layer that makes them or looks at them.
package kinds

// The kinds of terms, by their numbers in the document's table.
const (
	None = iota // no term has it
	Text
	Secret
	Row
	Hash
	Mac
	Derived
	Public
	Shared
	Signed
	Sealed
)

// The kinds of frames, by their first bytes.
const (
	Padding = 0
	Ping    = 1
	Ack     = 2
	Crypto  = 6
	Token   = 7
	Data    = 8
	Close   = 28
	Done    = 30
)

// The kinds of a handshake's messages, by their first bytes.
const (
	ClientHello = 1
	ServerHello = 2
	Ticket      = 4
	Params      = 8
	Name        = 11
	Proof       = 15
	Finished    = 20
)
