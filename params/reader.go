package params

import (
	"shibboleth/api"
	"shibboleth/fields"
)

// reader takes params, field by field; what has no form is a panic of an api.Errno.
type reader struct {
	in   *fields.Reader // the fields that are not taken yet
	body *fields.Reader // what the one that is being taken has
	p    Params
}

// takers tells how what each field has is taken, by the fields' numbers.
func takers() map[int]func(*reader) {
	return map[int]func(*reader){
		goalField:     (*reader).goal,
		idleField:     (*reader).idle,
		dataField:     (*reader).data,
		ownField:      (*reader).own,
		retryField:    (*reader).retry,
		versionsField: (*reader).versions,
	}
}

// params takes all fields: they rise, and those that are no names are there.
func (r *reader) params() Params {
	missing := takers()
	for last := -1; r.in.Left() > 0; {
		number := r.in.Number()
		take, is := missing[number]
		fields.Want(is && number > last, api.ErrForm)
		r.body = fields.Of(r.in.Bytes(r.in.Number()), api.ErrForm)
		take(r)
		fields.Want(r.body.Left() == 0, api.ErrForm)
		delete(missing, number)
		last = number
	}
	for _, number := range []int{idleField, dataField, versionsField} {
		_, is := missing[number]
		fields.Want(!is, api.ErrForm)
	}
	fields.Want(Right(r.p), api.ErrForm)
	return r.p
}

func (r *reader) goal() { r.p.HasGoal, r.p.Goal = true, r.whole() }

func (r *reader) idle() { r.p.Idle = r.body.Number() }

func (r *reader) data() { r.p.Data = r.body.Number() }

func (r *reader) own() { r.p.HasOwn, r.p.Own = true, r.whole() }

func (r *reader) retry() { r.p.HasRetry, r.p.Retry = true, r.whole() }

func (r *reader) versions() {
	r.p.Chosen = r.body.Fixed(fields.VersionSize)
	for r.body.Left() > 0 {
		r.p.Versions = append(r.p.Versions, r.body.Fixed(fields.VersionSize))
	}
}

// whole takes all that a field has.
func (r *reader) whole() []byte { return r.body.Bytes(r.body.Left()) }
